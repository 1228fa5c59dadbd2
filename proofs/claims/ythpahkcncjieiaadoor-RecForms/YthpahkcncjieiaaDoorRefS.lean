/- The reference's CheckCell, CheckRec. Own work; no statement. -/
import Derived.Test.YthpahkcncjieiaaDoorR12
import Derived.Test.YthpahkcncjieiaaDoorRefA
set_option linter.unusedSimpArgs false
set_option linter.unusedVariables false
namespace Go.Proofs.YthpahkcncjieiaaDoor
open Go.RowKit

/-- Whether a key and a value may be. -/
def cellL (k v : List UInt8) : Int := if isKeyL k then checkValL v else 3

set_option maxHeartbeats 4000000 in
theorem refCell_calls (key val : ByteArray) (w : World) (hks : key.size ≤ 1099511627776) (hvs : val.size ≤ 1099511627776) :
    Calls Tryd.prog 52 #[.string key, .string val] w fun e w' => e = .returned (.int .i64 (cellL key.data.toList val.data.toList)) ∧ w' = w := by
  obtain ⟨c, hc⟩ : ∃ c, cellL key.data.toList val.data.toList = c := ⟨_, rfl⟩
  rw [hc]
  unfold cellL isKeyL checkValL at hc
  rw [← Lib.size_eq, ← Lib.size_eq] at hc
  have Hc := hide hc
  clear hc
  by_cases h1 : (key.size : Int) < 1
  · obtain rfl : 3 = c := by rw [← Hc.out, decide_eq_false (by omega)]; rfl
    go_enter Tryd.func52, Tryd.ntmps52
    go_wp2
    go_ret
    exact ⟨rfl, rfl⟩
  · by_cases h8 : 8 < (key.size : Int)
    · obtain rfl : 3 = c := by rw [← Hc.out, decide_eq_false (by omega)]; rfl
      go_enter Tryd.func52, Tryd.ntmps52
      go_wp2
      go_ret
      exact ⟨rfl, rfl⟩
    · have e := Hc.out
      rw [decide_eq_true (by omega), Bool.true_and] at e
      clear Hc
      replace e := hide e
      go_enter Tryd.func52, Tryd.ntmps52
      go_wp2
      go_loop [5] (fun i => ∃ k : Nat, k ≤ key.size ∧ i = .int .i64 (k : Int) ∧ ∀ c ∈ key.data.toList.take k, keyB c = true) (fun i => key.size - (intOf i).toNat)
      case atStart => exact ⟨0, Nat.zero_le _, rfl, by simp⟩
      case round =>
        obtain ⟨k, hk, rfl, hall⟩ := hrel
        replace hall := hide hall
        by_cases hkl : k < key.size
        · have hlt : (k : Int) < (key.size : Int) := by omega
          cases hd : keyB key[k] with
          | true =>
            have hsn := hide (all_snoc key k hkl hall.out hd)
            unfold keyB at hd
            simp only [decide_eq_true_eq] at hd
            by_cases h97 : ((key[k].toNat : Nat) : Int) < 97
            · have h48 : ¬ ((key[k].toNat : Nat) : Int) < 48 := by omega
              have h57 : ¬ 57 < ((key[k].toNat : Nat) : Int) := by omega
              clear hd
              go_wp2
              exact ⟨⟨k + 1, by omega, by go_num, hsn.out⟩, by simp [intOf]; omega⟩
            · have h122 : ¬ 122 < ((key[k].toNat : Nat) : Int) := by omega
              clear hd
              go_wp2
              exact ⟨⟨k + 1, by omega, by go_num, hsn.out⟩, by simp [intOf]; omega⟩
          | false =>
            obtain rfl : 3 = c := by rw [← e.out, all_not key k hkl hd]; rfl
            unfold keyB at hd
            simp only [decide_eq_false_iff_not] at hd
            by_cases h97 : ((key[k].toNat : Nat) : Int) < 97
            · by_cases h48 : ((key[k].toNat : Nat) : Int) < 48
              · clear hd
                go_wp2
                go_ret
                exact ⟨rfl, rfl⟩
              · have h57 : 57 < ((key[k].toNat : Nat) : Int) := by omega
                clear hd
                go_wp2
                go_ret
                exact ⟨rfl, rfl⟩
            · have h122 : 122 < ((key[k].toNat : Nat) : Int) := by omega
              have h48 : ¬ ((key[k].toNat : Nat) : Int) < 48 := by omega
              have h57 : 57 < ((key[k].toNat : Nat) : Int) := by omega
              clear hd
              go_wp2
              go_ret
              exact ⟨rfl, rfl⟩
        · have e2 := e.out
          rw [all_end key k hkl hall.out, if_pos rfl] at e2
          clear e hall
          replace e2 := hide e2
          have hkl' : ¬ (k : Int) < (key.size : Int) := by omega
          clear hkl
          go_wp2
          go_loop [6] (fun i => ∃ k : Nat, k ≤ val.size ∧ i = .int .i64 (k : Int) ∧ ∀ c ∈ val.data.toList.take k, valB c = true) (fun i => val.size - (intOf i).toNat)
          case atStart => exact ⟨0, Nat.zero_le _, rfl, by simp⟩
          case round =>
            obtain ⟨k, hk, rfl, hall⟩ := hrel
            replace hall := hide hall
            by_cases hkl : k < val.size
            · have hlt : (k : Int) < (val.size : Int) := by omega
              cases hd : valB val[k] with
              | true =>
                have hsn := hide (all_snoc val k hkl hall.out hd)
                unfold valB at hd
                simp only [decide_eq_true_eq] at hd
                have h33 : ¬ ((val[k].toNat : Nat) : Int) < 33 := by omega
                have h126 : ¬ 126 < ((val[k].toNat : Nat) : Int) := by omega
                clear hd
                go_wp2
                exact ⟨⟨k + 1, by omega, by go_num, hsn.out⟩, by simp [intOf]; omega⟩
              | false =>
                obtain rfl : 2 = c := by rw [← e2.out, all_not val k hkl hd]; rfl
                unfold valB at hd
                simp only [decide_eq_false_iff_not] at hd
                by_cases h33 : ((val[k].toNat : Nat) : Int) < 33
                · clear hd
                  go_wp2
                  go_ret
                  exact ⟨rfl, rfl⟩
                · have h126 : 126 < ((val[k].toNat : Nat) : Int) := by omega
                  clear hd
                  go_wp2
                  go_ret
                  exact ⟨rfl, rfl⟩
            · have e3 := e2.out
              rw [all_end val k hkl hall.out, if_pos rfl] at e3
              by_cases h16 : 16 < (val.size : Int)
              · rw [if_pos (by omega)] at e3
                subst e3
                go_wp2
                go_ret
                exact ⟨rfl, rfl⟩
              · rw [if_neg (by omega)] at e3
                subst e3
                go_wp2
                go_ret
                exact ⟨rfl, rfl⟩

set_option maxHeartbeats 2000000 in
theorem refCheckRec_calls (v : Value) (r : RecD) (s : Int) (w : World) (hv : IsRec w v r) (hl : r.dep.length ≤ 1099511627776) (hks : r.key.size ≤ 1099511627776) (hvs : r.val.size ≤ 1099511627776) :
    Calls Tryd.prog 28 #[v, .int .i64 s] w fun e w' => e = .returned (.int .i64 (checkR r s)) ∧ Below w.heap.size w w' := by
  obtain ⟨c, hc⟩ : ∃ c, checkR r s = c := ⟨_, rfl⟩
  rw [hc]
  unfold checkR at hc
  obtain ⟨site, seq, dep, key, val⟩ := r
  obtain ⟨a, cap, rfl, hn⟩ := hv
  dsimp only at *
  have HB := hide (box_below w (.cells #[.int .i64 site, .int .i64 seq, .slice a dep.length cap, .string key, .string val] 33))
  have Hn := hide (hn.below HB.out)
  have Hc := hide hc
  clear hn hc
  by_cases h0 : s < 1
  · have e : c = 1 := by rw [← Hc.out, if_pos (by omega)]
    subst e
    go_enter Tryd.func28, Tryd.ntmps28
    go_wp2
    go_ret
    exact ⟨rfl, HB.out⟩
  by_cases h1 : 8 < s
  · have e : c = 1 := by rw [← Hc.out, if_pos (by omega)]
    subst e
    go_enter Tryd.func28, Tryd.ntmps28
    go_wp2
    go_ret
    exact ⟨rfl, HB.out⟩
  by_cases h2 : site < 0
  · have e : c = 1 := by rw [← Hc.out, if_pos (by omega)]
    subst e
    go_enter Tryd.func28, Tryd.ntmps28
    go_wp2
    go_ret
    exact ⟨rfl, HB.out⟩
  by_cases h3 : s ≤ site
  · have e : c = 1 := by rw [← Hc.out, if_pos (by omega)]
    subst e
    go_enter Tryd.func28, Tryd.ntmps28
    go_wp2
    go_ret
    exact ⟨rfl, HB.out⟩
  by_cases h4 : seq < 1
  · have e : c = 1 := by rw [← Hc.out, if_pos (by omega)]
    subst e
    go_enter Tryd.func28, Tryd.ntmps28
    go_wp2
    go_ret
    exact ⟨rfl, HB.out⟩
  by_cases h5 : 1048576 < seq
  · have e : c = 1 := by rw [← Hc.out, if_pos (by omega)]
    subst e
    go_enter Tryd.func28, Tryd.ntmps28
    go_wp2
    go_ret
    exact ⟨rfl, HB.out⟩
  have e := Hc.out
  rw [if_neg (by omega)] at e
  clear Hc
  obtain ⟨q, hq⟩ : ∃ q, checkL dep s = q := ⟨_, rfl⟩
  rw [hq] at e
  replace e := hide e
  have Hq := hide hq
  clear hq
  by_cases hq0 : q = 0
  · have e1 := e.out
    rw [if_pos hq0] at e1
    subst hq0
    clear e
    replace e1 := hide e1
    obtain ⟨g, hg⟩ : ∃ g, geti dep site = g := ⟨_, rfl⟩
    have Hg := hide hg
    have HG := hide (fun n => refGet_calls _ dep site _ (Hn.out.below (below_draws n)) hl)
    rw [hg] at HG
    clear hg
    by_cases h13 : seq ≤ g
    · have e2 : c = 13 := by rw [← e1.out, Hg.out, if_pos h13]
      subst e2
      go_enter Tryd.func28, Tryd.ntmps28
      go_wp2_with (go_at_call 50; refine (refCheck_calls _ dep s _ Hn.out hl).mono ?_; rintro e w' ⟨rfl, rfl⟩; rw [Hq.out])
      go_quiet (first | (go_at_call 51; refine Calls.quiet_of_same (HG.out _)))
      go_wp2
      go_ret
      exact ⟨rfl, HB.out.trans (below_draws _)⟩
    · have e2 := e1.out
      rw [Hg.out, if_neg h13] at e2
      clear e1
      replace e2 := hide e2
      obtain ⟨kb, hkb⟩ : ∃ kb, cellL key.data.toList val.data.toList = kb := ⟨_, rfl⟩
      have e3 : c = kb := by rw [← e2.out, ← hkb]; rfl
      subst e3
      have Hkb := hide hkb
      clear hkb e2
      go_enter Tryd.func28, Tryd.ntmps28
      go_wp2_with (go_at_call 50; refine (refCheck_calls _ dep s _ Hn.out hl).mono ?_; rintro e w' ⟨rfl, rfl⟩; rw [Hq.out])
      go_quiet (first | (go_at_call 51; refine Calls.quiet_of_same (HG.out _)))
      go_wp2_with (go_at_call 52; refine (refCell_calls key val _ hks hvs).mono ?_; rintro e w' ⟨rfl, rfl⟩; rw [Hkb.out])
      go_ret
      exact ⟨rfl, HB.out.trans (below_draws _)⟩
  · have e1 := e.out
    rw [if_neg hq0] at e1
    subst e1
    clear e
    have hq1 : (q != 0) = true := by simp [hq0]
    clear hq0
    go_enter Tryd.func28, Tryd.ntmps28
    go_wp2_with (go_at_call 50; refine (refCheck_calls _ dep s _ Hn.out hl).mono ?_; rintro e w' ⟨rfl, rfl⟩; rw [Hq.out])
    go_ret
    exact ⟨rfl, HB.out⟩


end Go.Proofs.YthpahkcncjieiaaDoor
