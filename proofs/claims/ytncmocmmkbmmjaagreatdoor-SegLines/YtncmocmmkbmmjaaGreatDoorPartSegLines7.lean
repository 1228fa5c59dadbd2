/- Own work: the parts RefS, RefH, RefI, RangeL, D1 of the proof, laid together. -/
import Derived.Test.YtncmocmmkbmmjaaGreatDoorPartSegLines6
import Derived.Test.YtncmocmmkbmmjaaGreatDoorPartSegLines5
import Derived.Sort.AtCall
import Derived.Test.YtncmocmmkbmmjaaGreatDoorPartSegLines2
import Derived.StillTailTactics
/- The reference's CheckCell, CheckRec. Own work; no statement. -/
set_option linter.unusedSimpArgs false
set_option linter.unusedVariables false
namespace Go.Proofs.YtncmocmmkbmmjaaGreatDoor
open Go.RowKit

/-- Whether a key and a value may be. -/
def cellL (k v : List UInt8) : Int := if isKeyL k then checkValL v else 3

set_option maxHeartbeats 4000000 in
theorem refCell_calls (key val : ByteArray) (w : World) (hks : key.size ≤ 1099511627776) (hvs : val.size ≤ 1099511627776) :
    Calls Tryz.prog 107 #[.string key, .string val] w fun e w' => e = .returned (.int .i64 (cellL key.data.toList val.data.toList)) ∧ w' = w := by
  obtain ⟨c, hc⟩ : ∃ c, cellL key.data.toList val.data.toList = c := ⟨_, rfl⟩
  rw [hc]
  unfold cellL isKeyL checkValL at hc
  rw [← Lib.size_eq, ← Lib.size_eq] at hc
  have Hc := hide hc
  clear hc
  by_cases h1 : (key.size : Int) < 1
  · obtain rfl : 3 = c := by rw [← Hc.out, decide_eq_false (by omega)]; rfl
    go_enter Tryz.func107, Tryz.ntmps107
    go_wp2
    go_ret
    exact ⟨rfl, rfl⟩
  · by_cases h8 : 8 < (key.size : Int)
    · obtain rfl : 3 = c := by rw [← Hc.out, decide_eq_false (by omega)]; rfl
      go_enter Tryz.func107, Tryz.ntmps107
      go_wp2
      go_ret
      exact ⟨rfl, rfl⟩
    · have e := Hc.out
      rw [decide_eq_true (by omega), Bool.true_and] at e
      clear Hc
      replace e := hide e
      go_enter Tryz.func107, Tryz.ntmps107
      go_wp2
      go_loop [5] (fun i => ∃ k : Nat, k ≤ key.size ∧ i = .int .i64 (k : Int) ∧ ∀ c ∈ key.data.toList.take k, keyB c = true) (fun i => key.size - (intOf i).toNat)
      case atStart => exact ⟨0, Nat.zero_le _, rfl, by simp⟩
      case round =>
        obtain ⟨k, hk, rfl, hall⟩ := hrel
        replace hall := hide hall
        by_cases hkl : k < key.size
        · have hlt : (k : Int) < (key.size : Int) := by omega
          cases hd : keyB key[k] with
          | true =>
            have hsn := hide (all_snoc key k hkl hall.out hd)
            unfold keyB at hd
            simp only [decide_eq_true_eq] at hd
            by_cases h97 : ((key[k].toNat : Nat) : Int) < 97
            · have h48 : ¬ ((key[k].toNat : Nat) : Int) < 48 := by omega
              have h57 : ¬ 57 < ((key[k].toNat : Nat) : Int) := by omega
              clear hd
              go_wp2
              exact ⟨⟨k + 1, by omega, by go_num, hsn.out⟩, by simp [intOf]; omega⟩
            · have h122 : ¬ 122 < ((key[k].toNat : Nat) : Int) := by omega
              clear hd
              go_wp2
              exact ⟨⟨k + 1, by omega, by go_num, hsn.out⟩, by simp [intOf]; omega⟩
          | false =>
            obtain rfl : 3 = c := by rw [← e.out, all_not key k hkl hd]; rfl
            unfold keyB at hd
            simp only [decide_eq_false_iff_not] at hd
            by_cases h97 : ((key[k].toNat : Nat) : Int) < 97
            · by_cases h48 : ((key[k].toNat : Nat) : Int) < 48
              · clear hd
                go_wp2
                go_ret
                exact ⟨rfl, rfl⟩
              · have h57 : 57 < ((key[k].toNat : Nat) : Int) := by omega
                clear hd
                go_wp2
                go_ret
                exact ⟨rfl, rfl⟩
            · have h122 : 122 < ((key[k].toNat : Nat) : Int) := by omega
              have h48 : ¬ ((key[k].toNat : Nat) : Int) < 48 := by omega
              have h57 : 57 < ((key[k].toNat : Nat) : Int) := by omega
              clear hd
              go_wp2
              go_ret
              exact ⟨rfl, rfl⟩
        · have e2 := e.out
          rw [all_end key k hkl hall.out, if_pos rfl] at e2
          clear e hall
          replace e2 := hide e2
          have hkl' : ¬ (k : Int) < (key.size : Int) := by omega
          clear hkl
          go_wp2
          go_loop [6] (fun i => ∃ k : Nat, k ≤ val.size ∧ i = .int .i64 (k : Int) ∧ ∀ c ∈ val.data.toList.take k, valB c = true) (fun i => val.size - (intOf i).toNat)
          case atStart => exact ⟨0, Nat.zero_le _, rfl, by simp⟩
          case round =>
            obtain ⟨k, hk, rfl, hall⟩ := hrel
            replace hall := hide hall
            by_cases hkl : k < val.size
            · have hlt : (k : Int) < (val.size : Int) := by omega
              cases hd : valB val[k] with
              | true =>
                have hsn := hide (all_snoc val k hkl hall.out hd)
                unfold valB at hd
                simp only [decide_eq_true_eq] at hd
                have h33 : ¬ ((val[k].toNat : Nat) : Int) < 33 := by omega
                have h126 : ¬ 126 < ((val[k].toNat : Nat) : Int) := by omega
                clear hd
                go_wp2
                exact ⟨⟨k + 1, by omega, by go_num, hsn.out⟩, by simp [intOf]; omega⟩
              | false =>
                obtain rfl : 2 = c := by rw [← e2.out, all_not val k hkl hd]; rfl
                unfold valB at hd
                simp only [decide_eq_false_iff_not] at hd
                by_cases h33 : ((val[k].toNat : Nat) : Int) < 33
                · clear hd
                  go_wp2
                  go_ret
                  exact ⟨rfl, rfl⟩
                · have h126 : 126 < ((val[k].toNat : Nat) : Int) := by omega
                  clear hd
                  go_wp2
                  go_ret
                  exact ⟨rfl, rfl⟩
            · have e3 := e2.out
              rw [all_end val k hkl hall.out, if_pos rfl] at e3
              by_cases h16 : 16 < (val.size : Int)
              · rw [if_pos (by omega)] at e3
                subst e3
                go_wp2
                go_ret
                exact ⟨rfl, rfl⟩
              · rw [if_neg (by omega)] at e3
                subst e3
                go_wp2
                go_ret
                exact ⟨rfl, rfl⟩

set_option maxHeartbeats 2000000 in
theorem refCheckRec_calls (v : Value) (r : RecD) (s : Int) (w : World) (hv : IsRec w v r) (hl : r.dep.length ≤ 1099511627776) (hks : r.key.size ≤ 1099511627776) (hvs : r.val.size ≤ 1099511627776) :
    Calls Tryz.prog 93 #[v, .int .i64 s] w fun e w' => e = .returned (.int .i64 (checkR r s)) ∧ Below w.heap.size w w' := by
  obtain ⟨c, hc⟩ : ∃ c, checkR r s = c := ⟨_, rfl⟩
  rw [hc]
  unfold checkR at hc
  obtain ⟨site, seq, dep, key, val⟩ := r
  obtain ⟨a, cap, rfl, hn⟩ := hv
  dsimp only at *
  have HB := hide (box_below w (.cells #[.int .i64 site, .int .i64 seq, .slice a dep.length cap, .string key, .string val] 95))
  have Hn := hide (hn.below HB.out)
  have Hc := hide hc
  clear hn hc
  by_cases h0 : s < 1
  · have e : c = 1 := by rw [← Hc.out, if_pos (by omega)]
    subst e
    go_enter Tryz.func93, Tryz.ntmps93
    go_wp2
    go_ret
    exact ⟨rfl, HB.out⟩
  by_cases h1 : 8 < s
  · have e : c = 1 := by rw [← Hc.out, if_pos (by omega)]
    subst e
    go_enter Tryz.func93, Tryz.ntmps93
    go_wp2
    go_ret
    exact ⟨rfl, HB.out⟩
  by_cases h2 : site < 0
  · have e : c = 1 := by rw [← Hc.out, if_pos (by omega)]
    subst e
    go_enter Tryz.func93, Tryz.ntmps93
    go_wp2
    go_ret
    exact ⟨rfl, HB.out⟩
  by_cases h3 : s ≤ site
  · have e : c = 1 := by rw [← Hc.out, if_pos (by omega)]
    subst e
    go_enter Tryz.func93, Tryz.ntmps93
    go_wp2
    go_ret
    exact ⟨rfl, HB.out⟩
  by_cases h4 : seq < 1
  · have e : c = 1 := by rw [← Hc.out, if_pos (by omega)]
    subst e
    go_enter Tryz.func93, Tryz.ntmps93
    go_wp2
    go_ret
    exact ⟨rfl, HB.out⟩
  by_cases h5 : 1048576 < seq
  · have e : c = 1 := by rw [← Hc.out, if_pos (by omega)]
    subst e
    go_enter Tryz.func93, Tryz.ntmps93
    go_wp2
    go_ret
    exact ⟨rfl, HB.out⟩
  have e := Hc.out
  rw [if_neg (by omega)] at e
  clear Hc
  obtain ⟨q, hq⟩ : ∃ q, checkL dep s = q := ⟨_, rfl⟩
  rw [hq] at e
  replace e := hide e
  have Hq := hide hq
  clear hq
  by_cases hq0 : q = 0
  · have e1 := e.out
    rw [if_pos hq0] at e1
    subst hq0
    clear e
    replace e1 := hide e1
    obtain ⟨g, hg⟩ : ∃ g, geti dep site = g := ⟨_, rfl⟩
    have Hg := hide hg
    have HG := hide (fun n => refGet_calls _ dep site _ (Hn.out.below (below_draws n)) hl)
    rw [hg] at HG
    clear hg
    by_cases h13 : seq ≤ g
    · have e2 : c = 13 := by rw [← e1.out, Hg.out, if_pos h13]
      subst e2
      go_enter Tryz.func93, Tryz.ntmps93
      go_wp2_with (go_at_call 105; refine (refCheck_calls _ dep s _ Hn.out hl).mono ?_; rintro e w' ⟨rfl, rfl⟩; rw [Hq.out])
      go_quiet (first | (go_at_call 106; refine Calls.quiet_of_same (HG.out _)))
      go_wp2
      go_ret
      exact ⟨rfl, HB.out.trans (below_draws _)⟩
    · have e2 := e1.out
      rw [Hg.out, if_neg h13] at e2
      clear e1
      replace e2 := hide e2
      obtain ⟨kb, hkb⟩ : ∃ kb, cellL key.data.toList val.data.toList = kb := ⟨_, rfl⟩
      have e3 : c = kb := by rw [← e2.out, ← hkb]; rfl
      subst e3
      have Hkb := hide hkb
      clear hkb e2
      go_enter Tryz.func93, Tryz.ntmps93
      go_wp2_with (go_at_call 105; refine (refCheck_calls _ dep s _ Hn.out hl).mono ?_; rintro e w' ⟨rfl, rfl⟩; rw [Hq.out])
      go_quiet (first | (go_at_call 106; refine Calls.quiet_of_same (HG.out _)))
      go_wp2_with (go_at_call 107; refine (refCell_calls key val _ hks hvs).mono ?_; rintro e w' ⟨rfl, rfl⟩; rw [Hkb.out])
      go_ret
      exact ⟨rfl, HB.out.trans (below_draws _)⟩
  · have e1 := e.out
    rw [if_neg hq0] at e1
    subst e1
    clear e
    have hq1 : (q != 0) = true := by simp [hq0]
    clear hq0
    go_enter Tryz.func93, Tryz.ntmps93
    go_wp2_with (go_at_call 105; refine (refCheck_calls _ dep s _ Hn.out hl).mono ?_; rintro e w' ⟨rfl, rfl⟩; rw [Hq.out])
    go_ret
    exact ⟨rfl, HB.out⟩


end Go.Proofs.YtncmocmmkbmmjaaGreatDoor

/- The reference's ParseRec. Own work; no statement. -/
set_option linter.unusedSimpArgs false
set_option linter.unusedVariables false
namespace Go.Proofs.YtncmocmmkbmmjaaGreatDoor
open Go.RowKit

theorem zero_rec (w : World) : IsRec w (.agg #[.int .i64 0, .int .i64 0, .slice none 0 0, .string ⟨#[]⟩, .string ⟨#[]⟩]) zeroR := (zero_own w.heap.size w).isRec

set_option maxRecDepth 100000 in
set_option maxHeartbeats 2000000 in
theorem refParseRec_none (s : ByteArray) (w : World) (hs : s.size ≤ 1048576) (h : parseR s.data.toList = (zeroR, 2))
    (hh : findL s.data.toList 58 0 = -1 ∨ ∃ a : Nat, findL s.data.toList 58 0 = a ∧ (findL s.data.toList 32 a = -1 ∨ ∃ b : Nat, findL s.data.toList 32 a = b ∧ (¬ s.data.toList[b + 1]? = some 91 ∨ (s.data.toList[b + 1]? = some 91 ∧ (findL s.data.toList 93 b = -1 ∨ ∃ c : Nat, findL s.data.toList 93 b = c ∧ (¬ s.data.toList[c + 1]? = some 32 ∨ (s.data.toList[c + 1]? = some 32 ∧ findL s.data.toList 61 c = -1))))))) :
    Calls Tryz.prog 70 #[.string s] w fun e w' => ∃ v, e = .returned (.tuple #[v, .int .i64 (parseR s.data.toList).2]) ∧ OwnRec w.heap.size w' v (parseR s.data.toList).1 ∧ Below w.heap.size w w' := by
  rw [h]
  clear h
  have z0 : (w.alloc (.cells #[.int .i64 0, .int .i64 0, .slice none 0 0, .string ⟨#[]⟩, .string ⟨#[]⟩] 95)).heap[w.heap.size]? = some (.cells #[.int .i64 0, .int .i64 0, .slice none 0 0, .string ⟨#[]⟩, .string ⟨#[]⟩] 95 (0, 0)) := World.alloc_heap_new w _
  have hB := box_below w (.cells #[.int .i64 0, .int .i64 0, .slice none 0 0, .string ⟨#[]⟩, .string ⟨#[]⟩] 95)
  generalize hW0 : w.alloc (.cells #[.int .i64 0, .int .i64 0, .slice none 0 0, .string ⟨#[]⟩, .string ⟨#[]⟩] 95) = W0 at *
  have HW := hide hW0
  have d0 := cell_at z0 0
  have d1 := cell_at z0 1
  have d2 := cell_at z0 2
  have d3 := cell_at z0 3
  have d4 := cell_at z0 4
  simp only [List.getElem?_toArray, List.getElem?_cons_zero, List.getElem?_cons_succ] at d0 d1 d2 d3 d4
  have g0 := frozen_at z0 0
  have g1 := frozen_at z0 1
  have g2 := frozen_at z0 2
  have g3 := frozen_at z0 3
  have g4 := frozen_at z0 4
  have zlt := ltB z0
  have Z0 := hide z0
  clear z0 hW0
  have hs' : s.size ≤ 1099511627776 := by omega
  have f1 : ∀ w, Calls Tryz.prog 36 #[.string s, .int .u8 58, .int .i64 0] w fun e w' => e = .returned (.int .i64 (findL s.data.toList 58 0)) ∧ w' = w := fun w => refFind_calls s 58 0 w hs' (by omega)
  rcases hh with ha | ⟨a, ha, hh⟩
  · rw [ha] at f1
    replace f1 := hide f1
    clear ha
    go_enter Tryz.func70, Tryz.ntmps70
    go_wp2_with (first | (go_at_call_of 36 (Value.int .u8 58); rw [HW.out]; refine (f1.out _).mono ?_; rintro e w' ⟨rfl, rfl⟩))
    obtain ⟨W', hW', k0, k1, k2, k3, k4, hB'⟩ := parse_zero Z0.out hB (Nat.le_refl _)
    unfold put5 at hW'
    rw [hW']
    exact bodyPost_ret (v := .tuple #[.agg #[.int .i64 0, .int .i64 0, .slice none 0 0, .string ⟨#[]⟩, .string ⟨#[]⟩], .int .i64 2]) (by simp [results, Tryz.f70, go_sem, k0, k1, k2, k3, k4]) rfl ⟨_, rfl, zero_own _ _, hB'⟩
  have hal := (cut_a ha).1
  rw [← Lib.size_eq] at hal
  have f2 : ∀ w, Calls Tryz.prog 36 #[.string s, .int .u8 32, .int .i64 (a : Int)] w fun e w' => e = .returned (.int .i64 (findL s.data.toList 32 a)) ∧ w' = w := fun w => refFind_calls s 32 a w hs' (by omega)
  rw [ha] at f1
  replace f1 := hide f1
  rcases hh with hb | ⟨b, hb, hh⟩
  · rw [hb] at f2
    replace f2 := hide f2
    clear ha hb
    go_enter Tryz.func70, Tryz.ntmps70
    go_wp2_with (first | (go_at_call_of 36 (Value.int .u8 58); rw [HW.out]; refine (f1.out _).mono ?_; rintro e w' ⟨rfl, rfl⟩) | (go_at_call_of 36 (Value.int .u8 32); refine (f2.out _).mono ?_; rintro e w' ⟨rfl, rfl⟩))
    obtain ⟨W', hW', k0, k1, k2, k3, k4, hB'⟩ := parse_zero Z0.out hB (Nat.le_refl _)
    unfold put5 at hW'
    rw [hW']
    exact bodyPost_ret (v := .tuple #[.agg #[.int .i64 0, .int .i64 0, .slice none 0 0, .string ⟨#[]⟩, .string ⟨#[]⟩], .int .i64 2]) (by simp [results, Tryz.f70, go_sem, k0, k1, k2, k3, k4]) rfl ⟨_, rfl, zero_own _ _, hB'⟩
  have hbl := (cut_b ha hb).2.1
  rw [← Lib.size_eq] at hbl
  have f3 : ∀ w, Calls Tryz.prog 36 #[.string s, .int .u8 93, .int .i64 (b : Int)] w fun e w' => e = .returned (.int .i64 (findL s.data.toList 93 b)) ∧ w' = w := fun w => refFind_calls s 93 b w hs' (by omega)
  rw [hb] at f2
  replace f2 := hide f2
  by_cases hbn : b + 1 < s.size
  case neg =>
    clear hh ha hb f3
    have hbn' : (s.size : Int) ≤ (b : Int) + 1 := by omega
    clear hbn
    go_enter Tryz.func70, Tryz.ntmps70
    go_wp2_with (first | (go_at_call_of 36 (Value.int .u8 58); rw [HW.out]; refine (f1.out _).mono ?_; rintro e w' ⟨rfl, rfl⟩) | (go_at_call_of 36 (Value.int .u8 32); refine (f2.out _).mono ?_; rintro e w' ⟨rfl, rfl⟩))
    obtain ⟨W', hW', k0, k1, k2, k3, k4, hB'⟩ := parse_zero Z0.out hB (Nat.le_refl _)
    unfold put5 at hW'
    rw [hW']
    exact bodyPost_ret (v := .tuple #[.agg #[.int .i64 0, .int .i64 0, .slice none 0 0, .string ⟨#[]⟩, .string ⟨#[]⟩], .int .i64 2]) (by simp [results, Tryz.f70, go_sem, k0, k1, k2, k3, k4]) rfl ⟨_, rfl, zero_own _ _, hB'⟩
  have hbi : s.data.toList[b + 1]? = some s[b + 1] := by
    have hbn2 : b + 1 < s.data.toList.length := by rw [← Lib.size_eq]; exact hbn
    rw [List.getElem?_eq_getElem hbn2]
    rfl
  rw [hbi, Option.some.injEq] at hh
  have hbn' : (b : Int) + 1 < (s.size : Int) := by omega
  rcases hh with hb9 | ⟨hb9, hh⟩
  · have hb9' : (((s[b + 1].toNat : Nat) : Int) != 91) = true := by
      rw [bne_iff_ne]
      intro e
      exact hb9 (UInt8.toNat_inj.1 (show s[b + 1].toNat = 91 by omega))
    replace hb9 := hide hb9
    replace hbi := hide hbi
    clear ha hb f3
    go_enter Tryz.func70, Tryz.ntmps70
    go_wp2_with (first | (go_at_call_of 36 (Value.int .u8 58); rw [HW.out]; refine (f1.out _).mono ?_; rintro e w' ⟨rfl, rfl⟩) | (go_at_call_of 36 (Value.int .u8 32); refine (f2.out _).mono ?_; rintro e w' ⟨rfl, rfl⟩))
    obtain ⟨W', hW', k0, k1, k2, k3, k4, hB'⟩ := parse_zero Z0.out hB (Nat.le_refl _)
    unfold put5 at hW'
    rw [hW']
    exact bodyPost_ret (v := .tuple #[.agg #[.int .i64 0, .int .i64 0, .slice none 0 0, .string ⟨#[]⟩, .string ⟨#[]⟩], .int .i64 2]) (by simp [results, Tryz.f70, go_sem, k0, k1, k2, k3, k4]) rfl ⟨_, rfl, zero_own _ _, hB'⟩
  have hb9' : (((s[b + 1].toNat : Nat) : Int) != 91) = false := by
    rw [hb9]
    rfl
  replace hb9 := hide hb9
  replace hbi := hide hbi
  rcases hh with hc | ⟨c, hc, hh⟩
  · rw [hc] at f3
    replace f3 := hide f3
    clear ha hb hc
    go_enter Tryz.func70, Tryz.ntmps70
    go_wp2_with (first | (go_at_call_of 36 (Value.int .u8 58); rw [HW.out]; refine (f1.out _).mono ?_; rintro e w' ⟨rfl, rfl⟩) | (go_at_call_of 36 (Value.int .u8 32); refine (f2.out _).mono ?_; rintro e w' ⟨rfl, rfl⟩) | (go_at_call_of 36 (Value.int .u8 93); refine (f3.out _).mono ?_; rintro e w' ⟨rfl, rfl⟩))
    obtain ⟨W', hW', k0, k1, k2, k3, k4, hB'⟩ := parse_zero Z0.out hB (Nat.le_refl _)
    unfold put5 at hW'
    rw [hW']
    exact bodyPost_ret (v := .tuple #[.agg #[.int .i64 0, .int .i64 0, .slice none 0 0, .string ⟨#[]⟩, .string ⟨#[]⟩], .int .i64 2]) (by simp [results, Tryz.f70, go_sem, k0, k1, k2, k3, k4]) rfl ⟨_, rfl, zero_own _ _, hB'⟩
  have hcl := (cut_c hb hc).2.1
  rw [← Lib.size_eq] at hcl
  have f4 : ∀ w, Calls Tryz.prog 36 #[.string s, .int .u8 61, .int .i64 (c : Int)] w fun e w' => e = .returned (.int .i64 (findL s.data.toList 61 c)) ∧ w' = w := fun w => refFind_calls s 61 c w hs' (by omega)
  rw [hc] at f3
  replace f3 := hide f3
  by_cases hcn : c + 1 < s.size
  case neg =>
    clear hh ha hb hc f4
    have hcn' : (s.size : Int) ≤ (c : Int) + 1 := by omega
    clear hcn
    go_enter Tryz.func70, Tryz.ntmps70
    go_wp2_with (first | (go_at_call_of 36 (Value.int .u8 58); rw [HW.out]; refine (f1.out _).mono ?_; rintro e w' ⟨rfl, rfl⟩) | (go_at_call_of 36 (Value.int .u8 32); refine (f2.out _).mono ?_; rintro e w' ⟨rfl, rfl⟩) | (go_at_call_of 36 (Value.int .u8 93); refine (f3.out _).mono ?_; rintro e w' ⟨rfl, rfl⟩))
    obtain ⟨W', hW', k0, k1, k2, k3, k4, hB'⟩ := parse_zero Z0.out hB (Nat.le_refl _)
    unfold put5 at hW'
    rw [hW']
    exact bodyPost_ret (v := .tuple #[.agg #[.int .i64 0, .int .i64 0, .slice none 0 0, .string ⟨#[]⟩, .string ⟨#[]⟩], .int .i64 2]) (by simp [results, Tryz.f70, go_sem, k0, k1, k2, k3, k4]) rfl ⟨_, rfl, zero_own _ _, hB'⟩
  have hci : s.data.toList[c + 1]? = some s[c + 1] := by
    have hcn2 : c + 1 < s.data.toList.length := by rw [← Lib.size_eq]; exact hcn
    rw [List.getElem?_eq_getElem hcn2]
    rfl
  rw [hci, Option.some.injEq] at hh
  have hcn' : (c : Int) + 1 < (s.size : Int) := by omega
  rcases hh with hc9 | ⟨hc9, hd⟩
  · have hc9' : (((s[c + 1].toNat : Nat) : Int) != 32) = true := by
      rw [bne_iff_ne]
      intro e
      exact hc9 (UInt8.toNat_inj.1 (show s[c + 1].toNat = 32 by omega))
    replace hc9 := hide hc9
    replace hci := hide hci
    clear ha hb hc f4
    go_enter Tryz.func70, Tryz.ntmps70
    go_wp2_with (first | (go_at_call_of 36 (Value.int .u8 58); rw [HW.out]; refine (f1.out _).mono ?_; rintro e w' ⟨rfl, rfl⟩) | (go_at_call_of 36 (Value.int .u8 32); refine (f2.out _).mono ?_; rintro e w' ⟨rfl, rfl⟩) | (go_at_call_of 36 (Value.int .u8 93); refine (f3.out _).mono ?_; rintro e w' ⟨rfl, rfl⟩))
    obtain ⟨W', hW', k0, k1, k2, k3, k4, hB'⟩ := parse_zero Z0.out hB (Nat.le_refl _)
    unfold put5 at hW'
    rw [hW']
    exact bodyPost_ret (v := .tuple #[.agg #[.int .i64 0, .int .i64 0, .slice none 0 0, .string ⟨#[]⟩, .string ⟨#[]⟩], .int .i64 2]) (by simp [results, Tryz.f70, go_sem, k0, k1, k2, k3, k4]) rfl ⟨_, rfl, zero_own _ _, hB'⟩
  have hc9' : (((s[c + 1].toNat : Nat) : Int) != 32) = false := by
    rw [hc9]
    rfl
  replace hc9 := hide hc9
  replace hci := hide hci
  rw [hd] at f4
  replace f4 := hide f4
  clear ha hb hc hd
  go_enter Tryz.func70, Tryz.ntmps70
  go_wp2_with (first | (go_at_call_of 36 (Value.int .u8 58); rw [HW.out]; refine (f1.out _).mono ?_; rintro e w' ⟨rfl, rfl⟩) | (go_at_call_of 36 (Value.int .u8 32); refine (f2.out _).mono ?_; rintro e w' ⟨rfl, rfl⟩) | (go_at_call_of 36 (Value.int .u8 93); refine (f3.out _).mono ?_; rintro e w' ⟨rfl, rfl⟩) | (go_at_call_of 36 (Value.int .u8 61); refine (f4.out _).mono ?_; rintro e w' ⟨rfl, rfl⟩))
  obtain ⟨W', hW', k0, k1, k2, k3, k4, hB'⟩ := parse_zero Z0.out hB (Nat.le_refl _)
  unfold put5 at hW'
  rw [hW']
  exact bodyPost_ret (v := .tuple #[.agg #[.int .i64 0, .int .i64 0, .slice none 0 0, .string ⟨#[]⟩, .string ⟨#[]⟩], .int .i64 2]) (by simp [results, Tryz.f70, go_sem, k0, k1, k2, k3, k4]) rfl ⟨_, rfl, zero_own _ _, hB'⟩
end Go.Proofs.YtncmocmmkbmmjaaGreatDoor

/- The reference's ParseRec, where all places are found. Own work; no statement. -/
set_option linter.unusedSimpArgs false
set_option linter.unusedVariables false
namespace Go.Proofs.YtncmocmmkbmmjaaGreatDoor
open Go.RowKit

theorem extract_data (s : ByteArray) (i j : Nat) : (s.extract i j).data.toList = (s.data.toList.drop i).take (j - i) := by
  have := extract_list s.data.toList i j
  rw [show (⟨s.data.toList.toArray⟩ : ByteArray) = s from rfl] at this
  rw [this]
theorem extract_le (s : ByteArray) (i j : Nat) : (s.extract i j).size ≤ s.size := by
  rw [ByteArray.size_extract]
  omega

set_option maxRecDepth 100000 in
set_option maxHeartbeats 2000000 in
theorem refParseRec_all (s : ByteArray) (w : World) (hs : s.size ≤ 1048576) {a b c d : Nat} (ha : findL s.data.toList 58 0 = a) (hb : findL s.data.toList 32 a = b) (hb9 : s.data.toList[b + 1]? = some 91) (hc : findL s.data.toList 93 b = c) (hc9 : s.data.toList[c + 1]? = some 32) (hd : findL s.data.toList 61 c = d) :
    Calls Tryz.prog 70 #[.string s] w fun e w' => ∃ v, e = .returned (.tuple #[v, .int .i64 (parseR s.data.toList).2]) ∧ OwnRec w.heap.size w' v (parseR s.data.toList).1 ∧ Below w.heap.size w w' := by
  obtain ⟨hsp, hcd, hdl⟩ := at_all ha hb hc hc9 hd
  have hal := (cut_a ha).1
  obtain ⟨hab, hbl, -⟩ := cut_b ha hb
  obtain ⟨hbc, hcl, -⟩ := cut_c hb hc
  rw [← Lib.size_eq] at hal hbl hcl hdl
  have hP : parseR s.data.toList = parseP true (s.extract 0 a).data.toList (s.extract (a + 1) b).data.toList (s.extract (b + 1) (c + 1)).data.toList (s.extract (c + 2) d).data.toList (s.extract (d + 1) s.size).data.toList := by
    unfold parseR
    rw [hsp]
    dsimp only
    rw [extract_data, extract_data, extract_data, extract_data, extract_data, List.drop_zero, Nat.sub_zero, show c + 1 - (b + 1) = c - b by omega]
    congr 1
    rw [List.take_of_length_le]
    rw [List.length_drop, ← Lib.size_eq]
    omega
  rw [hP]
  clear hP hsp
  obtain ⟨P, hP⟩ : ∃ P, parseP true (s.extract 0 a).data.toList (s.extract (a + 1) b).data.toList (s.extract (b + 1) (c + 1)).data.toList (s.extract (c + 2) d).data.toList (s.extract (d + 1) s.size).data.toList = P := ⟨_, rfl⟩
  rw [hP]
  unfold parseP at hP
  have hs' : s.size ≤ 1099511627776 := by omega
  have f1 : ∀ w, Calls Tryz.prog 36 #[.string s, .int .u8 58, .int .i64 0] w fun e w' => e = .returned (.int .i64 (findL s.data.toList 58 0)) ∧ w' = w := fun w => refFind_calls s 58 0 w hs' (by omega)
  have f2 : ∀ w, Calls Tryz.prog 36 #[.string s, .int .u8 32, .int .i64 (a : Int)] w fun e w' => e = .returned (.int .i64 (findL s.data.toList 32 a)) ∧ w' = w := fun w => refFind_calls s 32 a w hs' (by omega)
  have f3 : ∀ w, Calls Tryz.prog 36 #[.string s, .int .u8 93, .int .i64 (b : Int)] w fun e w' => e = .returned (.int .i64 (findL s.data.toList 93 b)) ∧ w' = w := fun w => refFind_calls s 93 b w hs' (by omega)
  have f4 : ∀ w, Calls Tryz.prog 36 #[.string s, .int .u8 61, .int .i64 (c : Int)] w fun e w' => e = .returned (.int .i64 (findL s.data.toList 61 c)) ∧ w' = w := fun w => refFind_calls s 61 c w hs' (by omega)
  rw [ha] at f1
  rw [hb] at f2
  rw [hc] at f3
  rw [hd] at f4
  clear ha hb hc hd
  replace f1 := hide f1
  replace f2 := hide f2
  replace f3 := hide f3
  replace f4 := hide f4
  have hbn : b + 1 < s.size := by omega
  have hcn : c + 1 < s.size := by omega
  have hb9' : (((s[b + 1].toNat : Nat) : Int) != 91) = false := by
    have hbn2 : b + 1 < s.data.toList.length := by rw [← Lib.size_eq]; exact hbn
    rw [List.getElem?_eq_getElem hbn2, Option.some.injEq] at hb9
    rw [show s[b + 1] = 91 from hb9]
    rfl
  have hc9' : (((s[c + 1].toNat : Nat) : Int) != 32) = false := by
    have hcn2 : c + 1 < s.data.toList.length := by rw [← Lib.size_eq]; exact hcn
    rw [List.getElem?_eq_getElem hcn2, Option.some.injEq] at hc9
    rw [show s[c + 1] = 32 from hc9]
    rfl
  clear hb9 hc9
  have u1 := hide (fun w => refNumberAny_calls (s.extract 0 a) w (Nat.le_trans (extract_le _ _ _) hs'))
  have u2 := hide (fun w => refNumberAny_calls (s.extract (a + 1) b) w (Nat.le_trans (extract_le _ _ _) hs'))
  have u3 := hide (fun w => refParseO_calls (s.extract (b + 1) (c + 1)) w (Nat.le_trans (extract_le _ _ _) hs))
  generalize numL (s.extract 0 a).data.toList = n1 at *
  generalize numL (s.extract (a + 1) b).data.toList = n2 at *
  have hdl3 := parseL_len (s.extract (b + 1) (c + 1)).data.toList
  generalize parseL (s.extract (b + 1) (c + 1)).data.toList = n3 at *
  obtain ⟨site, b1⟩ := n1
  obtain ⟨seq, b2⟩ := n2
  obtain ⟨dep, e3⟩ := n3
  dsimp only at *
  have z0 : (w.alloc (.cells #[.int .i64 0, .int .i64 0, .slice none 0 0, .string ⟨#[]⟩, .string ⟨#[]⟩] 95)).heap[w.heap.size]? = some (.cells #[.int .i64 0, .int .i64 0, .slice none 0 0, .string ⟨#[]⟩, .string ⟨#[]⟩] 95 (0, 0)) := World.alloc_heap_new w _
  have hB := box_below w (.cells #[.int .i64 0, .int .i64 0, .slice none 0 0, .string ⟨#[]⟩, .string ⟨#[]⟩] 95)
  generalize hW0 : w.alloc (.cells #[.int .i64 0, .int .i64 0, .slice none 0 0, .string ⟨#[]⟩, .string ⟨#[]⟩] 95) = W0 at *
  have HW := hide hW0
  have d0 := cell_at z0 0
  have d1 := cell_at z0 1
  have d2 := cell_at z0 2
  have d3 := cell_at z0 3
  have d4 := cell_at z0 4
  simp only [List.getElem?_toArray, List.getElem?_cons_zero, List.getElem?_cons_succ] at d0 d1 d2 d3 d4
  have g0 := frozen_at z0 0
  have g1 := frozen_at z0 1
  have g2 := frozen_at z0 2
  have g3 := frozen_at z0 3
  have g4 := frozen_at z0 4
  have zlt := ltB z0
  have Z0 := hide z0
  clear z0 hW0
  cases b1 with
  | false =>
    rw [if_neg (by simp)] at hP
    subst hP
    go_enter Tryz.func70, Tryz.ntmps70
    go_wp2_with (first | (go_at_call_of 36 (Value.int .u8 58); rw [HW.out]; refine (f1.out _).mono ?_; rintro e w' ⟨rfl, rfl⟩) | (go_at_call_of 36 (Value.int .u8 32); refine (f2.out _).mono ?_; rintro e w' ⟨rfl, rfl⟩) | (go_at_call_of 36 (Value.int .u8 93); refine (f3.out _).mono ?_; rintro e w' ⟨rfl, rfl⟩) | (go_at_call_of 36 (Value.int .u8 61); refine (f4.out _).mono ?_; rintro e w' ⟨rfl, rfl⟩) | (go_at_call_has 69 (Value.string (s.extract 0 a)); refine (u1.out _).mono ?_; rintro e w' ⟨rfl, rfl⟩) | (go_at_call_has 69 (Value.string (s.extract (a + 1) b)); refine (u2.out _).mono ?_; rintro e w' ⟨rfl, rfl⟩))
    obtain ⟨W', hW', k0, k1, k2, k3, k4, hB'⟩ := parse_zero Z0.out hB (Nat.le_refl _)
    unfold put5 at hW'
    rw [hW']
    exact bodyPost_ret (v := .tuple #[.agg #[.int .i64 0, .int .i64 0, .slice none 0 0, .string ⟨#[]⟩, .string ⟨#[]⟩], .int .i64 2]) (by simp [results, Tryz.f70, go_sem, k0, k1, k2, k3, k4]) rfl ⟨_, rfl, zero_own _ _, hB'⟩
  | true =>
    cases b2 with
    | false =>
      rw [if_neg (by simp)] at hP
      subst hP
      go_enter Tryz.func70, Tryz.ntmps70
      go_wp2_with (first | (go_at_call_of 36 (Value.int .u8 58); rw [HW.out]; refine (f1.out _).mono ?_; rintro e w' ⟨rfl, rfl⟩) | (go_at_call_of 36 (Value.int .u8 32); refine (f2.out _).mono ?_; rintro e w' ⟨rfl, rfl⟩) | (go_at_call_of 36 (Value.int .u8 93); refine (f3.out _).mono ?_; rintro e w' ⟨rfl, rfl⟩) | (go_at_call_of 36 (Value.int .u8 61); refine (f4.out _).mono ?_; rintro e w' ⟨rfl, rfl⟩) | (go_at_call_has 69 (Value.string (s.extract 0 a)); refine (u1.out _).mono ?_; rintro e w' ⟨rfl, rfl⟩) | (go_at_call_has 69 (Value.string (s.extract (a + 1) b)); refine (u2.out _).mono ?_; rintro e w' ⟨rfl, rfl⟩))
      obtain ⟨W', hW', k0, k1, k2, k3, k4, hB'⟩ := parse_zero Z0.out hB (Nat.le_refl _)
      unfold put5 at hW'
      rw [hW']
      exact bodyPost_ret (v := .tuple #[.agg #[.int .i64 0, .int .i64 0, .slice none 0 0, .string ⟨#[]⟩, .string ⟨#[]⟩], .int .i64 2]) (by simp [results, Tryz.f70, go_sem, k0, k1, k2, k3, k4]) rfl ⟨_, rfl, zero_own _ _, hB'⟩
    | true =>
      rw [if_pos ⟨rfl, rfl, rfl⟩] at hP
      replace hP := hide hP
      go_enter Tryz.func70, Tryz.ntmps70
      go_wp2_with (first | (go_at_call_of 36 (Value.int .u8 58); rw [HW.out]; refine (f1.out _).mono ?_; rintro e w' ⟨rfl, rfl⟩) | (go_at_call_of 36 (Value.int .u8 32); refine (f2.out _).mono ?_; rintro e w' ⟨rfl, rfl⟩) | (go_at_call_of 36 (Value.int .u8 93); refine (f3.out _).mono ?_; rintro e w' ⟨rfl, rfl⟩) | (go_at_call_of 36 (Value.int .u8 61); refine (f4.out _).mono ?_; rintro e w' ⟨rfl, rfl⟩) | (go_at_call_has 69 (Value.string (s.extract 0 a)); refine (u1.out _).mono ?_; rintro e w' ⟨rfl, rfl⟩) | (go_at_call_has 69 (Value.string (s.extract (a + 1) b)); refine (u2.out _).mono ?_; rintro e w' ⟨rfl, rfl⟩))
      refine (u3.out _).mono ?_
      rintro e w3 ⟨v, rfl, hn, hB3⟩
      obtain ⟨p, cap, rfl⟩ := ownsRow_slice hn
      have hnew : ∀ k, (Value.slice p dep.length cap).ownBlock = some k → w.heap.size < k ∧ k < w3.heap.size := fun k hk => ⟨by have := (hn.lt k hk).1; omega, (hn.lt k hk).2⟩
      replace hn := ownsRow_low hn (show w.heap.size ≤ _ by omega)
      have hw3 := hB3.size
      have z0 := keepB Z0.out hB3
      replace hB := hB.trans (hB3.mono hB.size)
      clear Z0 d0 d1 d2 d3 d4 g0 g1 g2 g3 g4 u1 u2 u3 f1 f2 f3 f4 HW zlt hB3
      have d0 := cell_at z0 0
      have d1 := cell_at z0 1
      have d2 := cell_at z0 2
      have d3 := cell_at z0 3
      have d4 := cell_at z0 4
      simp only [List.getElem?_toArray, List.getElem?_cons_zero, List.getElem?_cons_succ] at d0 d1 d2 d3 d4
      have g0 := frozen_at z0 0
      have g1 := frozen_at z0 1
      have g2 := frozen_at z0 2
      have g3 := frozen_at z0 3
      have g4 := frozen_at z0 4
      have zlt := ltB z0
      have Z0 := hide z0
      have Hn := hide hn
      clear z0 hn
      by_cases he3 : e3 = 0
      case neg =>
        have e1 := hP.out
        rw [if_neg he3] at e1
        subst e1
        clear hP
        have he3' : (e3 != 0) = true := by simp [he3]
        clear he3
        go_wp2
        obtain ⟨W', hW', k0, k1, k2, k3, k4, hB'⟩ := parse_zero Z0.out hB (Nat.le_refl _)
        unfold put5 at hW'
        rw [hW']
        exact bodyPost_ret (v := .tuple #[.agg #[.int .i64 0, .int .i64 0, .slice none 0 0, .string ⟨#[]⟩, .string ⟨#[]⟩], .int .i64 e3]) (by simp [results, Tryz.f70, go_sem, k0, k1, k2, k3, k4]) rfl ⟨_, rfl, zero_own _ _, hB'⟩
      subst he3
      have e1 := hP.out
      clear hP
      rw [if_pos rfl] at e1
      rw [show (⟨(s.extract (c + 2) d).data.toList.toArray⟩ : ByteArray) = s.extract (c + 2) d from rfl, show (⟨(s.extract (d + 1) s.size).data.toList.toArray⟩ : ByteArray) = s.extract (d + 1) s.size from rfl] at e1
      obtain ⟨q, hq⟩ : ∃ q, checkR ⟨site, seq, dep, s.extract (c + 2) d, s.extract (d + 1) s.size⟩ 8 = q := ⟨_, rfl⟩
      rw [hq] at e1
      have Hq := hide hq
      replace e1 := hide e1
      clear hq
      have hi1 : ((c : Int) + 2 ≤ (d : Int)) := by omega
      have hi2 : ((d : Int) ≤ (s.size : Int)) := by omega
      have hi3 : ((d : Int) + 1 ≤ (s.size : Int)) := by omega
      go_wp2_with fail
      go_region
      have x0 : (w3.alloc (.cells #[.int .i64 site, .int .i64 seq, .slice p dep.length cap, .string (s.extract (c + 2) d), .string (s.extract (d + 1) s.size)] 95)).drew.heap[w3.heap.size]? = some (.cells #[.int .i64 site, .int .i64 seq, .slice p dep.length cap, .string (s.extract (c + 2) d), .string (s.extract (d + 1) s.size)] 95 (0, 0)) := World.alloc_heap_new w3 _
      have z0 := keepB Z0.out (box_below w3 (.cells #[.int .i64 site, .int .i64 seq, .slice p dep.length cap, .string (s.extract (c + 2) d), .string (s.extract (d + 1) s.size)] 95)).drew
      have hn := own_below Hn.out (box_below w3 (.cells #[.int .i64 site, .int .i64 seq, .slice p dep.length cap, .string (s.extract (c + 2) d), .string (s.extract (d + 1) s.size)] 95)).drew
      have hB2 := (hB.alloc hB.size (.cells #[.int .i64 site, .int .i64 seq, .slice p dep.length cap, .string (s.extract (c + 2) d), .string (s.extract (d + 1) s.size)] 95)).drew
      clear Z0 Hn hB d0 d1 d2 d3 d4 g0 g1 g2 g3 g4
      generalize (w3.alloc (.cells #[.int .i64 site, .int .i64 seq, .slice p dep.length cap, .string (s.extract (c + 2) d), .string (s.extract (d + 1) s.size)] 95)).drew = W4 at *
      have hck := refCheckRec_calls _ ⟨site, seq, dep, s.extract (c + 2) d, s.extract (d + 1) s.size⟩ 8 W4 (show IsRec W4 (.agg #[.int .i64 site, .int .i64 seq, .slice p dep.length cap, .string (s.extract (c + 2) d), .string (s.extract (d + 1) s.size)]) ⟨site, seq, dep, s.extract (c + 2) d, s.extract (d + 1) s.size⟩ from ⟨p, cap, rfl, IsNums.of_row hn⟩) (by dsimp only; omega) (Nat.le_trans (extract_le _ _ _) hs') (Nat.le_trans (extract_le _ _ _) hs')
      rw [Hq.out] at hck
      replace hck := hide hck
      have m0 := cell_at x0 0
      have m1 := cell_at x0 1
      have m2 := cell_at x0 2
      have m3 := cell_at x0 3
      have m4 := cell_at x0 4
      simp only [List.getElem?_toArray, List.getElem?_cons_zero, List.getElem?_cons_succ] at m0 m1 m2 m3 m4
      have r0 := frozen_at x0 0
      have r1 := frozen_at x0 1
      have r2 := frozen_at x0 2
      have r3 := frozen_at x0 3
      have r4 := frozen_at x0 4
      have xlt := ltB x0
      have X0 := hide x0
      have Z0 := hide z0
      have Hn := hide hn
      clear x0 z0 hn
      go_wp2_with fail
      refine hck.out.mono ?_
      rintro e w5 ⟨rfl, hB5⟩
      have x0 := keepB X0.out hB5
      have z0 := keepB Z0.out hB5
      have hn := own_below Hn.out hB5
      have hB := hB2.trans (hB5.mono hB2.size)
      clear X0 Z0 Hn hck hB2 hB5 m0 m1 m2 m3 m4 r0 r1 r2 r3 r4 xlt zlt
      have d0 := cell_at z0 0
      have d1 := cell_at z0 1
      have d2 := cell_at z0 2
      have d3 := cell_at z0 3
      have d4 := cell_at z0 4
      simp only [List.getElem?_toArray, List.getElem?_cons_zero, List.getElem?_cons_succ] at d0 d1 d2 d3 d4
      have g0 := frozen_at z0 0
      have g1 := frozen_at z0 1
      have g2 := frozen_at z0 2
      have g3 := frozen_at z0 3
      have g4 := frozen_at z0 4
      have zlt := ltB z0
      have m0 := cell_at x0 0
      have m1 := cell_at x0 1
      have m2 := cell_at x0 2
      have m3 := cell_at x0 3
      have m4 := cell_at x0 4
      simp only [List.getElem?_toArray, List.getElem?_cons_zero, List.getElem?_cons_succ] at m0 m1 m2 m3 m4
      have r0 := frozen_at x0 0
      have r1 := frozen_at x0 1
      have r2 := frozen_at x0 2
      have r3 := frozen_at x0 3
      have r4 := frozen_at x0 4
      have xlt := ltB x0
      have X0 := hide x0
      have Z0 := hide z0
      have Hn := hide hn
      clear x0 z0 hn
      by_cases hq0 : q = 0
      case neg =>
        have e2 := e1.out
        rw [if_neg hq0] at e2
        subst e2
        clear e1
        have hq' : (q != 0) = true := by simp [hq0]
        clear hq0
        go_wp2
        obtain ⟨W', hW', k0, k1, k2, k3, k4, hB'⟩ := parse_zero Z0.out hB (Nat.le_refl _)
        unfold put5 at hW'
        rw [hW']
        exact bodyPost_ret (v := .tuple #[.agg #[.int .i64 0, .int .i64 0, .slice none 0 0, .string ⟨#[]⟩, .string ⟨#[]⟩], .int .i64 q]) (by simp [results, Tryz.f70, go_sem, k0, k1, k2, k3, k4]) rfl ⟨_, rfl, zero_own _ _, hB'⟩
      have e2 := e1.out
      rw [if_pos hq0] at e2
      subst hq0
      subst e2
      clear e1 Hq
      go_wp2_with fail
      have y1 := put5_heap Z0.out (.int .i64 site) (.int .i64 seq) (.slice p dep.length cap) (.string (s.extract (c + 2) d)) (.string (s.extract (d + 1) s.size))
      have hB3 := put5_below hB (Nat.le_refl _) (.int .i64 site) (.int .i64 seq) (.slice p dep.length cap) (.string (s.extract (c + 2) d)) (.string (s.extract (d + 1) s.size))
      have ho1 : ∀ k, k ≠ w.heap.size → (put5 w5 w.heap.size (.int .i64 site) (.int .i64 seq) (.slice p dep.length cap) (.string (s.extract (c + 2) d)) (.string (s.extract (d + 1) s.size))).heap[k]? = w5.heap[k]? := fun k h2 => put5_other k h2 _ _ _ _ _
      obtain ⟨W9, hW9⟩ : ∃ W9, put5 w5 w.heap.size (.int .i64 site) (.int .i64 seq) (.slice p dep.length cap) (.string (s.extract (c + 2) d)) (.string (s.extract (d + 1) s.size)) = W9 := ⟨_, rfl⟩
      rw [hW9] at y1 hB3 ho1
      unfold put5 at hW9
      rw [hW9]
      have k0 := cell_at y1 0
      have k1 := cell_at y1 1
      have k2 := cell_at y1 2
      have k3 := cell_at y1 3
      have k4 := cell_at y1 4
      simp only [List.getElem?_toArray, List.getElem?_cons_zero, List.getElem?_cons_succ] at k0 k1 k2 k3 k4
      refine bodyPost_ret (v := .tuple #[.agg #[.int .i64 site, .int .i64 seq, .slice p dep.length cap, .string (s.extract (c + 2) d), .string (s.extract (d + 1) s.size)], .int .i64 0]) (by simp [results, Tryz.f70, go_sem, k0, k1, k2, k3, k4]) rfl ⟨_, rfl, ⟨_, rfl, ?_⟩, hB3⟩
      exact ownsRow_of_heap Hn.out fun k hk => by have h1 := hnew k hk; exact ho1 k (by omega)

theorem refParseRec_own (s : ByteArray) (w : World) (hs : s.size ≤ 1048576) :
    Calls Tryz.prog 70 #[.string s] w fun e w' => ∃ v, e = .returned (.tuple #[v, .int .i64 (parseR s.data.toList).2]) ∧ OwnRec w.heap.size w' v (parseR s.data.toList).1 ∧ Below w.heap.size w w' := by
  rcases find_range s.data.toList 58 0 with ha | ⟨a, ha⟩
  · exact refParseRec_none s w hs (none_parse (at_a ha)) (.inl ha)
  rcases find_range s.data.toList 32 a with hb | ⟨b, hb⟩
  · exact refParseRec_none s w hs (none_parse (at_b ha hb)) (.inr ⟨a, ha, .inl hb⟩)
  by_cases hb9 : s.data.toList[b + 1]? = some 91
  case neg => exact refParseRec_none s w hs (no_bracket ha hb hb9) (.inr ⟨a, ha, .inr ⟨b, hb, .inl hb9⟩⟩)
  rcases find_range s.data.toList 93 b with hc | ⟨c, hc⟩
  · exact refParseRec_none s w hs (none_parse (at_c ha hb hc)) (.inr ⟨a, ha, .inr ⟨b, hb, .inr ⟨hb9, .inl hc⟩⟩⟩)
  by_cases hc9 : s.data.toList[c + 1]? = some 32
  case neg => exact refParseRec_none s w hs (none_parse (at_sp ha hb hc hc9)) (.inr ⟨a, ha, .inr ⟨b, hb, .inr ⟨hb9, .inr ⟨c, hc, .inl hc9⟩⟩⟩⟩)
  rcases find_range s.data.toList 61 c with hd | ⟨d, hd⟩
  · exact refParseRec_none s w hs (none_parse (at_d ha hb hc hc9 hd)) (.inr ⟨a, ha, .inr ⟨b, hb, .inr ⟨hb9, .inr ⟨c, hc, .inr ⟨hc9, hd⟩⟩⟩⟩⟩)
  exact refParseRec_all s w hs ha hb hb9 hc hc9 hd

theorem refParseRec_calls (s : ByteArray) (w : World) (hs : s.size ≤ 1048576) :
    Calls Tryz.prog 70 #[.string s] w fun e w' => ∃ v, e = .returned (.tuple #[v, .int .i64 (parseR s.data.toList).2]) ∧ IsRec w' v (parseR s.data.toList).1 ∧ Below w.heap.size w w' :=
  (refParseRec_own s w hs).mono fun _ _ ⟨v, h1, h2, h3⟩ => ⟨v, h1, h2.isRec, h3⟩

end Go.Proofs.YtncmocmmkbmmjaaGreatDoor

/- A range over a function that goes over a list which is known: the body is walked at the k-th element of it. Own work; no statement. -/
set_option linter.unusedSimpArgs false
set_option linter.unusedVariables false
namespace Go.Proofs.YtncmocmmkbmmjaaGreatDoor
open Go.RowKit Go.Shelf

section
variable {α : Type} {P : Program} {n : Nat}

/-- The iterator's contract: it hands over xs, one by one, as long as it is asked. -/
def SeqL (n : Nat) (P : Program) (g : Nat) (lb : Array Value) (encs : α → Array Value) (Kp : World → World → Prop) (xs : List α) (w : World) : Prop :=
  ∀ (l : Nat) (J Jx : Nat → World → Prop) (W : World), Below w.heap.size w W →
    (∀ k (h : k < xs.length) A, J k A → YieldAt Fence.wide (n - 1) P l (encs xs[k]) A fun e C => (e = .returned (.bool true) ∧ J (k + 1) C ∧ Kp A C) ∨ (e = .returned (.bool false) ∧ Jx k C)) →
    J 0 W → CallsIn Fence.wide n P g (#[.func (.yield l) #[] #[]] ++ lb) W fun e B => (∃ v, e = .returned v) ∧ (J xs.length B ∨ ∃ k, k < xs.length ∧ Jx k B)

/-- How the body of a round may be left. -/
def postL (B : Nat) (Kp : World → World → Prop) (I : Nat → World → Prop) (Ix : Code → Nat → World → Prop) (k : Nat) (W : World) : Exit → Act → World → Prop
  | .normal, _, W' => KeepsFrom B W W' ∧ Kp W W' ∧ I (k + 1) W'
  | .ret, _, W' => KeepsFrom B W W' ∧ Ix .ret k W'
  | .exit id, _, W' => KeepsFrom B W W' ∧ Ix (.exit id) k W'
  | .goto t, _, W' => KeepsFrom B W W' ∧ Ix (.goto t) k W'
  | .panic _, _, _ => False
  | .outgrown, _, _ => False

theorem range_lawL {g : Operand} {ps : Array Tmp} {assign body : Code} {Q : Exit → Act → World → Prop} {a : Act} {w : World} (h1 : 1 ≤ n) {gf : Nat} {lb : Array Value} (hg : a.eval g = .func (.func gf) #[] lb)
    (eg : ∀ args w, (callFunc gf args).run P w = .ok (.enter gf args) w) {encs : α → Array Value} {Kp : World → World → Prop} {xs : List α} (hseq : SeqL (n - 1) P gf lb encs Kp xs w)
    (hKt : ∀ {A B C : World}, Kp A B → Kp B C → Kp A C) (hKb : ∀ (W : World) (l : Nat) (o o' : Obj), w.heap.size ≤ l → W.heap[l]? = some o → o.isCells = false → o.isWalk = false → Kp W (W.putObj l o'))
    (hps : ∀ x, (encs x).size = ps.size)
    (I : Nat → World → Prop) (Ix : Code → Nat → World → Prop) (hI : OwnFrom w.heap.size I) (hIx : ∀ c, OwnFrom w.heap.size (Ix c))
    (h0 : I 0 w) (a₁ : α → Act)
    (hassign : ∀ (l : Nat) (x : α) (W : World) (K : Act → World → Prop), K (a₁ x) W →
      assign.wpIn (Fence.wide.inRound l) (n - 1 - 1) P (Exit.then K (fun _ _ _ => False)) { tmps := (ps.zip (encs x)).foldl (fun t (p, v) => t.setIfInBounds p v) a.tmps, defers := [] } W)
    (hbody : ∀ (l k : Nat) (h : k < xs.length) (W : World), I k W → body.wpIn (Fence.wide.inRound l) (n - 1 - 1) P (postL w.heap.size Kp I Ix k W) (a₁ xs[k]) W)
    (hdone : ∀ (D : Nat) (W : World), w.heap.size ≤ D → I xs.length W → W.heap[D]? = some (.deferred (some [])) → Q .normal { a with defers := { target := .collected D, args := #[] } :: a.defers } W)
    (hstop : ∀ (D : Nat) (c : Code) (k : Nat) (W : World), w.heap.size ≤ D → k < xs.length → Ix c k W → W.heap[D]? = some (.deferred (some [])) → c.wpIn Fence.wide n P Q { a with defers := { target := .collected D, args := #[] } :: a.defers } W) :
    (Code.rangeFunc g ps assign body).wpIn Fence.wide n P Q a w := by
  refine wpIn_rangeFunc fun fn _ => ?_
  generalize hD : w.heap.size = D at *
  let r : Loop := { state := .ready, pending := none, fn, tmps := a.tmps, params := ps, assign, body, defers := D }
  let w1 : World := (w.alloc (.deferred (some []))).alloc (.loop r)
  have bk1 : Book D r w1 := by
    refine ⟨?_, ?_⟩
    · have := World.alloc_heap_new (w.alloc (.deferred (some []))) (.loop r)
      rwa [World.size_alloc, hD] at this
    · have := World.alloc_heap_new w (.deferred (some []))
      rw [hD] at this
      exact (Below.heap_alloc _ _ _ (by simp; omega)).trans this
  have i1 : I 0 w1 := hI.alloc _ (hI.alloc _ h0)
  have b1 : Below w.heap.size w w1 := ((Below.refl _ w).alloc (Nat.le_refl _) _).alloc (by simp) _
  refine ⟨D + 1, [{ target := .collected D, args := #[] }], w1, { target := .fn (.func gf) lb, args := #[.func (.yield (D + 1)) #[] #[]] }, w1, gf, #[.func (.yield (D + 1)) #[] #[]] ++ lb, w1, ?_, ?_, fun _ _ => trivial, ?_, fun _ => h1, ?_⟩
  · rw [← hD]
    have := run_enterLoop_outer (P := P) (w := w) fn a.tmps ps assign body
    simp only [w1, r, ← hD]
    exact this
  · simp only [resolve, hg]
    simp [go_sem]
  · simp [invoke, go_sem, eg]
  · refine (hseq (D + 1) (fun k W => I k W ∧ Book D r W) (fun k W => ∃ c, Ix c k W ∧ Book D { r with state := .done, pending := some c } W) w1 b1 ?_ ⟨i1, bk1⟩).mono ?_
    · rintro k hk W ⟨hi, hb⟩
      refine ⟨fn, _, assign, body, run_yield hb.1 (hps xs[k]), roundIn_of_wpIn trivial (hassign _ xs[k] W _ ⟨_, run_beginRound hb.1 rfl, ?_⟩)⟩
      have hb2 := hb.put { r with state := .busy }
      have k2 : Kp W (W.putObj (D + 1) (.loop { r with state := .busy })) := hKb _ _ _ _ (by omega) hb.1 rfl rfl
      refine wpIn_mono (hbody _ k hk _ (hI.putObj _ hi (by omega) hb.1 rfl)) fun e a3 W3 hp => ?_
      have left : ∀ c, KeepsFrom D (W.putObj (D + 1) (.loop { r with state := .busy })) W3 → Ix c k W3 → ∃ v W4, (Instr.endRound (D + 1) (some c)).run P W3 = .ok v W4 ∧ ((Ending.returned v = .returned (.bool true) ∧ (I (k + 1) W4 ∧ Book D r W4) ∧ Kp W W4) ∨ (Ending.returned v = .returned (.bool false) ∧ ∃ c, Ix c k W4 ∧ Book D { r with state := .done, pending := some c } W4)) := fun c hk' hi3 => by
        obtain ⟨hr, hl, hb4⟩ := round_end (P := P) hb2 (some c) hk'
        exact ⟨_, _, hr, .inr ⟨rfl, c, (hIx c).putObj _ hi3 (by omega) hl rfl, hb4⟩⟩
      cases e with
      | normal =>
        obtain ⟨hk', hkp, hi3⟩ := hp
        obtain ⟨hr, hl, hb4⟩ := round_end (P := P) hb2 none hk'
        exact ⟨_, _, hr, .inl ⟨rfl, ⟨hI.putObj _ hi3 (by omega) hl rfl, hb4⟩, hKt (hKt k2 hkp) (hKb _ _ _ _ (by omega) hl rfl rfl)⟩⟩
      | ret => exact left _ hp.1 hp.2
      | exit id => exact left _ hp.1 hp.2
      | goto t => exact left _ hp.1 hp.2
      | panic _ => exact hp.elim
      | outgrown => exact hp.elim
    · rintro e W2 ⟨⟨v, rfl⟩, (⟨hi, hb⟩ | ⟨k, hk, c, hi, hb⟩)⟩
      · exact ⟨none, _, run_endLoop hb.1 (by simp [r]), hdone _ _ (Nat.le_refl _) (hI.putObj _ hi (by omega) hb.1 rfl) (hb.put _).2⟩
      · exact ⟨some c, _, run_endLoop hb.1 (by simp), hstop _ c k _ (Nat.le_refl _) hk ((hIx c).putObj _ hi (by omega) hb.1 rfl) (hb.put _).2⟩
end

end Go.Proofs.YtncmocmmkbmmjaaGreatDoor

/- Memory that changes at some blocks alone; disks in memory; disk's small functions. Own work; no statement. -/
set_option linter.unusedSimpArgs false
set_option linter.unusedVariables false
namespace Go.Proofs.YtncmocmmkbmmjaaGreatDoor
open Go.RowKit Go.Shelf

/-- From w to w' nothing has changed of what there was, but for the blocks of S. -/
structure Touch (S : Nat → Prop) (w w' : World) : Prop where
  os : w'.os = w.os
  tape : w'.tape = w.tape
  output : w'.output = w.output
  size : w.heap.size ≤ w'.heap.size
  block : ∀ k, k < w.heap.size → ¬ S k → w'.heap[k]? = w.heap[k]?

theorem Touch.refl (S : Nat → Prop) (w : World) : Touch S w w := ⟨rfl, rfl, rfl, Nat.le_refl _, fun _ _ _ => rfl⟩
theorem Touch.next {S S1 : Nat → Prop} {a b c : World} (h : Touch S a b) (k : Touch S1 b c) (hs : ∀ i, i < a.heap.size → S1 i → S i) : Touch S a c :=
  ⟨k.os.trans h.os, k.tape.trans h.tape, k.output.trans h.output, Nat.le_trans h.size k.size, fun i hi hS => (k.block i (Nat.lt_of_lt_of_le hi h.size) (fun e => hS (hs i hi e))).trans (h.block i hi hS)⟩
theorem Touch.trans {S : Nat → Prop} {a b c : World} (h : Touch S a b) (k : Touch S b c) : Touch S a c := h.next k fun _ _ e => e
theorem Touch.mono {S S' : Nat → Prop} {w w' : World} (h : Touch S w w') (hs : ∀ k, k < w.heap.size → S k → S' k) : Touch S' w w' :=
  ⟨h.os, h.tape, h.output, h.size, fun k hk hS => h.block k hk fun e => hS (hs k hk e)⟩
theorem touch_of_below {S : Nat → Prop} {B : Nat} {w w' : World} (h : Below B w w') (hS : ∀ k, k < w.heap.size → B ≤ k → S k) : Touch S w w' :=
  ⟨h.os, h.tape, h.output, h.size, fun k hk hn => h.block k (Nat.lt_of_not_le fun hb => hn (hS k hk hb))⟩
theorem touch_new {S : Nat → Prop} {w w' : World} (h : Below w.heap.size w w') : Touch S w w' := touch_of_below h fun k h1 h2 => absurd h1 (by omega)
theorem Touch.below {S : Nat → Prop} {w w' : World} {B : Nat} (h : Touch S w w') (hb : B ≤ w.heap.size) (hB : ∀ k, k < w.heap.size → S k → B ≤ k) : Below B w w' :=
  ⟨h.os, h.tape, h.output, h.size, fun k hk => h.block k (by omega) fun e => by have := hB k (by omega) e; omega⟩
theorem touch_set {S : Nat → Prop} (w : World) (a : Addr) (v : Value) (h : S a.block) : Touch S w (w.setCell a v) :=
  ⟨rfl, rfl, rfl, by simp [World.setCell], fun k _ hn => Below.heap_setCell _ _ _ _ (fun e => hn (e ▸ h))⟩
theorem Touch.set {S : Nat → Prop} {w w' : World} (t : Touch S w w') (a : Addr) (v : Value) (h : S a.block) : Touch S w (w'.setCell a v) := t.trans (touch_set w' a v h)
theorem Touch.alloc {S : Nat → Prop} {w w' : World} (t : Touch S w w') (o : Obj) : Touch S w (w'.alloc o) := t.trans (touch_new ((Below.refl _ w').alloc (Nat.le_refl _) o))
theorem Touch.drew {S : Nat → Prop} {w w' : World} (t : Touch S w w') : Touch S w w'.drew := ⟨t.os, t.tape, t.output, t.size, t.block⟩
theorem Touch.new {S : Nat → Prop} {w w' w2 : World} (t : Touch S w w') (h : Below w'.heap.size w' w2) : Touch S w w2 := t.trans (touch_new h)
/-- What is new since w may be changed at will. -/
theorem Touch.upper {S S1 : Nat → Prop} {a b c : World} (h : Touch S a b) (k : Touch S1 b c) (hs : ∀ i, S1 i → a.heap.size ≤ i) : Touch S a c := h.next k fun i hi e => absurd (hs i e) (by omega)

theorem ownFrom_touch {β : Type} {S : Nat → Prop} {w : World} {B : Nat} (hB : w.heap.size ≤ B) : OwnFrom B (fun (_ : β) W => Touch S w W) := fun _ W W' row h hg hr =>
  h.next (S1 := fun k => row = some k) ⟨hg.os, hg.tape, hg.output, hg.size, fun k hk hn => hg.block k hk fun e => hn e.symm⟩ fun i hi e => absurd ((hr i e).1) (by omega)

theorem Touch.of_touch {S : Nat → Prop} {a b c : World} (k : Touch S b c) (h : Below a.heap.size a b) : Touch S a c := (touch_new h).trans k
theorem drewsB (w : World) (n : Nat) : Below w.heap.size w (w.drewN n) := ⟨rfl, rfl, rfl, Nat.le_refl _, fun _ _ => rfl⟩
theorem Touch.drewN {S : Nat → Prop} {w w' : World} (t : Touch S w w') (n : Nat) : Touch S w (w'.drewN n) := t.new (drewsB w' n)

theorem cellsAt {W : World} {b : Nat} {c : Array Value} {t : TypeId} {f : Nat × Nat} (h : W.heap[b]? = some (.cells c t f)) (j : Nat) : W.cell? ⟨b, j, none⟩ = c[j]? := by
  simp [World.cell?, h]
theorem frozenAt {W : World} {b : Nat} {c : Array Value} {t : TypeId} (h : W.heap[b]? = some (.cells c t (0, 0))) (j : Nat) : W.frozen? ⟨b, j, none⟩ = false := by
  simp [World.frozen?, h]
theorem setAt {W : World} {b j : Nat} {c : Array Value} {t : TypeId} {f : Nat × Nat} (h : W.heap[b]? = some (.cells c t f)) (v : Value) : (W.setCell ⟨b, j, none⟩ v).heap[b]? = some (.cells (c.setIfInBounds j v) t f) := by
  simp [World.setCell, Array.getElem?_modify, h]
theorem ltAt {W : World} {b : Nat} {o : Obj} (h : W.heap[b]? = some o) : b < W.heap.size := (Array.getElem?_eq_some_iff.1 h).1

/-- A row is no block of another type. -/
theorem row_not {W : World} {B e : Nat} {v : Value} {n s b : Nat} {xs : List Value} {c : Array Value} {t : TypeId} {f : Nat × Nat} (h : W.ownsRow B e s v n xs) (hb : W.heap[b]? = some (.cells c t f)) (ht : t ≠ e) : some b ≠ v.ownBlock := fun he => by
  rcases h.2 with ⟨rfl, _⟩ | ⟨g', cap', cur, rfl, _, hg', _⟩
  · cases he
  · obtain rfl : b = g' := by simpa [Value.ownBlock] using he
    rw [hb] at hg'
    simp only [Option.some.injEq, Obj.cells.injEq] at hg'
    exact ht hg'.2.1

theorem frozen_alloc {w : World} {a : Addr} {v : Value} {o : Obj} (h : w.cell? a = some v) : (w.alloc o).frozen? a = w.frozen? a :=
  ((Below.refl _ w).alloc (Nat.le_refl _) o).frozen (p := a) (World.block_lt_of_cell? w _ h)

/-- A call of a Go function by its contract, as a step of a region that draws. -/
theorem stepCall {P : Program} {ops : Array Oper} {o : Oper} {a : Act} {w : World} {K : Act → World → Prop} {Q : Exit → Act → World → Prop} {E : Prop} (hg : o.guard = none) (f : FuncId) (args : Array Value) {R : Ending → World → Prop} (hrun : (execOp a.eval o).run P w = .ok (.enter f args) w) (hc : Calls P f args w R)
    (hR : ∀ e w', R e w' → ∃ v, e = .returned v ∧ K (a.put o.dst v) w') : if Region.wanted o (yielded ops a.tmps) = true then Oper.wp P o a w K Q else E := by
  rw [if_pos (by simp [Region.wanted, hg])]
  unfold Oper.wp
  rw [hrun]
  simp only [Oper.upon]
  refine hc.mono fun e w' h => ?_
  obtain ⟨v, rfl, hk⟩ := hR e w' h
  exact hk

/-- A region whose head only reads, and whose tail comes in one order. -/
theorem stillTail {P : Program} {id : Nat} {Q : Exit → Act → World → Prop} {a : Act} {w : World} {l : List Oper} (n : Nat) (hm : P.follows .mixedOrders = true) (hB : Region.lexTailB .any l.toArray n = true)
    (h : wpStill P l.toArray w.drew (fun a' => wpList P l.toArray Q (l.drop n) a' w.drew) (l.take n) a) : (Code.region id l.toArray true).wp P Q a w := wp_region_still_tail n hm hB h

/-- What a disk has. -/
structure DiskD where
  room : Int
  lines : List ByteArray
  lasts : Nat

/-- The bytes of lines, with their ends. -/
def bytesOf (l : List ByteArray) : Nat := (l.map (fun s => s.size + 1)).sum

theorem bytesOf_append (a b : List ByteArray) : bytesOf (a ++ b) = bytesOf a + bytesOf b := by simp [bytesOf]
theorem bytesOf_length (l : List ByteArray) : l.length ≤ bytesOf l := by
  induction l with
  | nil => simp [bytesOf]
  | cons x r ih => simp [bytesOf] at *; omega
theorem bytesOf_take (l : List ByteArray) (k : Nat) : bytesOf (l.take k) + bytesOf (l.drop k) = bytesOf l := by
  rw [← bytesOf_append, List.take_append_drop]
theorem bytesOf_mem {l : List ByteArray} {s : ByteArray} (h : s ∈ l) : s.size + 1 ≤ bytesOf l := by
  induction l with
  | nil => cases h
  | cons x r ih =>
    simp [bytesOf] at *
    rcases h with rfl | h
    · omega
    · have := ih h; omega

structure DiskD.ok (D : DiskD) : Prop where
  low : 1 ≤ D.room
  high : D.room ≤ 1048576
  fits : (bytesOf D.lines : Int) ≤ D.room
  lasts : D.lasts ≤ D.lines.length

/-- At block p there lies a disk, its lines in a row of their own. -/
structure IsDisk (w : World) (B p : Nat) (g : Option Nat) (D : DiskD) : Prop where
  ok : D.ok
  low : B ≤ p
  val : ∃ v, v.ownBlock = g ∧ w.heap[p]? = some (.cells #[.int .i64 D.room, .int .i64 (bytesOf D.lines), .int .i64 D.lasts, v] 76 (0, 0)) ∧ w.ownsRow B 9 1 v D.lines.length (D.lines.map Value.string)

/-- The blocks of a disk. -/
def onDisk (p : Nat) (g : Option Nat) (k : Nat) : Prop := k = p ∨ g = some k

theorem IsDisk.lt {w : World} {B p : Nat} {g : Option Nat} {D : DiskD} (h : IsDisk w B p g D) : p < w.heap.size := by
  obtain ⟨v, _, hp, _⟩ := h.val
  exact ltAt hp
theorem IsDisk.row {w : World} {B p : Nat} {g : Option Nat} {D : DiskD} (h : IsDisk w B p g D) : ∀ k, g = some k → B ≤ k ∧ k < w.heap.size := by
  obtain ⟨v, rfl, hp, hr⟩ := h.val
  exact hr.lt
theorem IsDisk.on {w : World} {B p : Nat} {g : Option Nat} {D : DiskD} (h : IsDisk w B p g D) {k : Nat} (hk : onDisk p g k) : B ≤ k ∧ k < w.heap.size := by
  rcases hk with rfl | e
  · exact ⟨h.low, h.lt⟩
  · exact h.row k e
/-- Where its blocks are as they were a disk is as it was. -/
theorem IsDisk.keep {w w' : World} {B p : Nat} {g : Option Nat} {D : DiskD} (h : IsDisk w B p g D) (hk : ∀ k, onDisk p g k → w'.heap[k]? = w.heap[k]?) : IsDisk w' B p g D := by
  obtain ⟨v, hv, hp, hr⟩ := h.val
  exact ⟨h.ok, h.low, v, hv, (hk p (.inl rfl)).trans hp, ownsRow_of_heap hr fun k e => hk k (.inr (hv ▸ e))⟩
theorem IsDisk.touch {w w' : World} {S : Nat → Prop} {B p : Nat} {g : Option Nat} {D : DiskD} (h : IsDisk w B p g D) (t : Touch S w w') (hS : ∀ k, onDisk p g k → ¬ S k) : IsDisk w' B p g D :=
  h.keep fun k hk => t.block k (h.on hk).2 (hS k hk)
theorem IsDisk.new {w w' : World} {B p : Nat} {g : Option Nat} {D : DiskD} (h : IsDisk w B p g D) (t : Below w.heap.size w w') : IsDisk w' B p g D :=
  h.keep fun k hk => t.block k (h.on hk).2
theorem IsDisk.len {w : World} {B p : Nat} {g : Option Nat} {D : DiskD} (h : IsDisk w B p g D) : D.lines.length ≤ 1048576 ∧ bytesOf D.lines ≤ 1048576 := by
  have := bytesOf_length D.lines
  have := h.ok.fits
  have := h.ok.high
  omega
/-- A disk and what is own of a world: cells alone. -/
theorem IsDisk.own {X Y : World} {row : Option Nat} {B p : Nat} {g : Option Nat} {D : DiskD} (h : IsDisk X B p g D) (hg : X.grownBy Y row) (hrow : ∀ r, row = some r → ∃ o : Obj, X.heap[r]? = some o ∧ o.isCells = false) : IsDisk Y B p g D := by
  obtain ⟨v, hv, hp, hr⟩ := h.val
  exact ⟨h.ok, h.low, v, hv, (own_keeps hg hrow hp).trans hp, ownsRow_own' hg hrow hr⟩

/-- A disk's cells, for a walk. -/
theorem IsDisk.open {w : World} {B p : Nat} {g : Option Nat} {D : DiskD} (h : IsDisk w B p g D) : ∃ a cap, w.cell? ⟨p, 0, none⟩ = some (.int .i64 D.room) ∧ w.cell? ⟨p, 1, none⟩ = some (.int .i64 (bytesOf D.lines)) ∧ w.cell? ⟨p, 2, none⟩ = some (.int .i64 D.lasts) ∧ w.cell? ⟨p, 3, none⟩ = some (.slice a D.lines.length cap) ∧
    (∀ j, w.frozen? ⟨p, j, none⟩ = false) ∧ (Value.slice a D.lines.length cap).ownBlock = g ∧ w.ownsRow B 9 1 (.slice a D.lines.length cap) D.lines.length (D.lines.map Value.string) ∧
    w.heap[p]? = some (.cells #[.int .i64 D.room, .int .i64 (bytesOf D.lines), .int .i64 D.lasts, .slice a D.lines.length cap] 76 (0, 0)) := by
  obtain ⟨v, hv, hp, hr⟩ := h.val
  obtain ⟨a, cap, rfl⟩ := ownsRow_slice hr
  exact ⟨a, cap, by simpa using cellsAt hp 0, by simpa using cellsAt hp 1, by simpa using cellsAt hp 2, by simpa using cellsAt hp 3, fun j => frozenAt hp j, hv, hr, hp⟩

/-- A row of texts, cell by cell. -/
theorem strs_cell {w : World} {B : Nat} {e : TypeId} {a : Option Addr} {cap : Nat} {l : List ByteArray} (h : w.ownsRow B e 1 (.slice a l.length cap) l.length (l.map Value.string)) (t : Nat) (ht : t < l.length) :
    ∃ b, a = some ⟨b, 0, none⟩ ∧ w.cell? ⟨b, t, none⟩ = some (.string l[t]) := by
  rcases h.2 with ⟨e', h0⟩ | ⟨g, cap', cur, e', _⟩
  · omega
  · simp only [Value.slice.injEq] at e'
    obtain ⟨rfl, -, rfl⟩ := e'
    refine ⟨g, rfl, ?_⟩
    rw [h.cellAt t (by omega)]
    simp [ht]

set_option maxHeartbeats 400000 in
theorem diskNew_calls (room : Int) (w : World) (h : 1 ≤ room) (h' : room ≤ 1048576) :
    Calls Tryz.prog 8 #[.int .i64 room] w fun e w' => e = .returned (.tuple #[.pointer (some ⟨w.heap.size, 0, none⟩), .int .i64 0]) ∧ IsDisk w' w.heap.size w.heap.size none ⟨room, [], 0⟩ ∧ Below w.heap.size w w' := by
  go_enter Tryz.func8, Tryz.ntmps8
  go_wp2
  go_ret2
  refine ⟨rfl, ⟨⟨h, h', by simp [bytesOf]; omega, by simp⟩, Nat.le_refl _, _, rfl, World.alloc_heap_new w _, World.ownsRow_nil _ _ _ _⟩, (Below.refl _ w).alloc (Nat.le_refl _) _⟩
set_option maxHeartbeats 400000 in
theorem diskNew_bad (room : Int) (w : World) (h : ¬ (1 ≤ room ∧ room ≤ 1048576)) :
    Calls Tryz.prog 8 #[.int .i64 room] w fun e w' => e = .returned (.tuple #[.pointer none, .int .i64 1]) ∧ w' = w := by
  by_cases h0 : room < 1
  · go_enter Tryz.func8, Tryz.ntmps8
    go_wp2
    go_ret2
    exact ⟨rfl, rfl⟩
  · have h1 : room > 1048576 := by omega
    go_enter Tryz.func8, Tryz.ntmps8
    go_wp2
    go_ret2
    exact ⟨rfl, rfl⟩
set_option maxHeartbeats 400000 in
theorem diskSize_calls (s : ByteArray) (w : World) (h : s.size ≤ 1099511627776) :
    Calls Tryz.prog 34 #[.string s] w fun e w' => e = .returned (.int .i64 (s.size + 1)) ∧ w' = w := by
  go_enter Tryz.func34, Tryz.ntmps34
  go_wp2
  go_ret
  exact ⟨rfl, rfl⟩
set_option maxHeartbeats 400000 in
theorem diskLen_calls (B p : Nat) (g : Option Nat) (D : DiskD) (w : World) (hd : IsDisk w B p g D) :
    Calls Tryz.prog 41 #[.pointer (some ⟨p, 0, none⟩)] w fun e w' => e = .returned (.int .i64 D.lines.length) ∧ w' = w := by
  obtain ⟨a, cap, c0, c1, c2, c3, hf, -, -, -⟩ := hd.open
  have hl := hd.len
  clear hd
  go_enter Tryz.func41, Tryz.ntmps41
  go_wp2
  go_ret
  exact ⟨rfl, rfl⟩
set_option maxHeartbeats 1000000 in
theorem diskWaits_calls (B p : Nat) (g : Option Nat) (D : DiskD) (w : World) (hd : IsDisk w B p g D) :
    Calls Tryz.prog 18 #[.pointer (some ⟨p, 0, none⟩)] w fun e w' => e = .returned (.int .i64 ((D.lines.length : Int) - (D.lasts : Int))) ∧ ∃ n, w' = w.drewN n := by
  obtain ⟨a, cap, c0, c1, c2, c3, hf, -, -, -⟩ := hd.open
  have hl := hd.len
  have h2 := hd.ok.lasts
  clear hd
  go_enter Tryz.func18, Tryz.ntmps18
  go_wp2
  go_quiet (fail)
  go_wp2
  go_ret
  exact ⟨rfl, _, rfl⟩
set_option maxHeartbeats 1000000 in
theorem diskSync_calls (B p : Nat) (g : Option Nat) (D : DiskD) (w : World) (hd : IsDisk w B p g D) :
    Calls Tryz.prog 31 #[.pointer (some ⟨p, 0, none⟩)] w fun e w' => e = .returned (.tuple #[]) ∧ IsDisk w' B p g ⟨D.room, D.lines, D.lines.length⟩ ∧ Touch (onDisk p g) w w' := by
  obtain ⟨a, cap, c0, c1, c2, c3, hf, hg, hr, hp⟩ := hd.open
  have hl := hd.len
  have f2 := hf 2
  have Hd := hide hd
  have Hr := hide hr
  have Hp := hide hp
  clear hd hf hr hp
  go_enter Tryz.func31, Tryz.ntmps31
  go_wp2
  go_end0
  have hd := Hd.out
  have hr := Hr.out
  refine ⟨rfl, ⟨⟨hd.ok.low, hd.ok.high, hd.ok.fits, Nat.le_refl _⟩, hd.low, .slice a D.lines.length cap, hg, by simpa using setAt Hp.out (j := 2) _, ownsRow_of_heap hr fun k e => Below.heap_setCell _ _ _ _ fun e' => ?_⟩, touch_set _ _ _ (.inl rfl)⟩
  dsimp only at e'
  subst e'
  rcases hr.2 with ⟨h0, _⟩ | ⟨g', cap', cur, h0, _, hg', _⟩
  · rw [h0] at e; cases e
  · rw [h0] at e
    obtain rfl : g' = k := by simpa [Value.ownBlock] using e
    rw [Hp.out] at hg'
    simp at hg'
end Go.Proofs.YtncmocmmkbmmjaaGreatDoor
