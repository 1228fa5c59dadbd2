/- rec's Check, Before, Same; the laws' Of and Few. Own work; no statement. -/
import Derived.Test.YtompaldhnbcikaaR1
import Derived.Deep.RegionWith
set_option linter.unusedSimpArgs false
set_option linter.unusedVariables false
namespace Go.Proofs.Ytompaldhnbcikaa
open Go.RowKit

set_option maxHeartbeats 2000000 in
theorem recCheck_calls (v : Value) (r : RecD) (s : Int) (w : World) (hv : IsRec w v r) (hl : r.dep.length ≤ 1099511627776) (hks : r.key.size ≤ 1099511627776) (hvs : r.val.size ≤ 1099511627776) :
    Calls Try.prog 28 #[v, .int .i64 s] w fun e w' => e = .returned (.int .i64 (checkR r s)) ∧ Below w.heap.size w w' := by
  obtain ⟨c, hc⟩ : ∃ c, checkR r s = c := ⟨_, rfl⟩
  rw [hc]
  unfold checkR at hc
  obtain ⟨site, seq, dep, key, val⟩ := r
  obtain ⟨a, cap, rfl, hn⟩ := hv
  dsimp only at *
  have HB := hide (box_below w (.cells #[.int .i64 site, .int .i64 seq, .slice a dep.length cap, .string key, .string val] 35))
  have Hn := hide (hn.below HB.out)
  have Hc := hide hc
  clear hn hc
  by_cases h0 : s < 1
  · have e : c = 1 := by rw [← Hc.out, if_pos (by omega)]
    subst e
    go_enter Try.func28, Try.ntmps28
    go_wp2
    go_ret
    exact ⟨rfl, HB.out⟩
  by_cases h1 : 8 < s
  · have e : c = 1 := by rw [← Hc.out, if_pos (by omega)]
    subst e
    go_enter Try.func28, Try.ntmps28
    go_wp2
    go_ret
    exact ⟨rfl, HB.out⟩
  by_cases h2 : site < 0
  · have e : c = 1 := by rw [← Hc.out, if_pos (by omega)]
    subst e
    go_enter Try.func28, Try.ntmps28
    go_wp2
    go_ret
    exact ⟨rfl, HB.out⟩
  by_cases h3 : s ≤ site
  · have e : c = 1 := by rw [← Hc.out, if_pos (by omega)]
    subst e
    go_enter Try.func28, Try.ntmps28
    go_wp2
    go_ret
    exact ⟨rfl, HB.out⟩
  by_cases h4 : seq < 1
  · have e : c = 1 := by rw [← Hc.out, if_pos (by omega)]
    subst e
    go_enter Try.func28, Try.ntmps28
    go_wp2
    go_ret
    exact ⟨rfl, HB.out⟩
  by_cases h5 : 1048576 < seq
  · have e : c = 1 := by rw [← Hc.out, if_pos (by omega)]
    subst e
    go_enter Try.func28, Try.ntmps28
    go_wp2
    go_ret
    exact ⟨rfl, HB.out⟩
  have e := Hc.out
  rw [if_neg (by omega)] at e
  clear Hc
  obtain ⟨q, hq⟩ : ∃ q, checkL dep s = q := ⟨_, rfl⟩
  rw [hq] at e
  replace e := hide e
  have Hq := hide hq
  clear hq
  by_cases hq0 : q = 0
  · have e1 := e.out
    rw [if_pos hq0] at e1
    subst hq0
    clear e
    replace e1 := hide e1
    obtain ⟨g, hg⟩ : ∃ g, geti dep site = g := ⟨_, rfl⟩
    have Hg := hide hg
    have HG := hide (fun n => get_calls _ dep site _ (Hn.out.below (below_draws n)) hl)
    rw [hg] at HG
    clear hg
    by_cases h13 : seq ≤ g
    · have e2 : c = 13 := by rw [← e1.out, Hg.out, if_pos h13]
      subst e2
      go_enter Try.func28, Try.ntmps28
      go_wp2_with (go_at_call 35; refine (check_calls _ dep s _ Hn.out hl).mono ?_; rintro e w' ⟨rfl, rfl⟩; rw [Hq.out])
      go_quiet (first | (go_at_call 36; refine Calls.quiet_of_same (HG.out _)))
      go_wp2
      go_ret
      exact ⟨rfl, HB.out.trans (below_draws _)⟩
    · have e2 := e1.out
      rw [Hg.out, if_neg h13] at e2
      clear e1
      replace e2 := hide e2
      obtain ⟨kb, hkb⟩ : ∃ kb, isKeyL key.data.toList = kb := ⟨_, rfl⟩
      obtain ⟨vb, hvb⟩ : ∃ vb, checkValL val.data.toList = vb := ⟨_, rfl⟩
      have Hkb := hide hkb
      have Hvb := hide hvb
      clear hkb hvb
      cases kb with
      | false =>
        have e3 : c = 3 := by rw [← e2.out, Hkb.out]; rfl
        subst e3
        go_enter Try.func28, Try.ntmps28
        go_wp2_with (go_at_call 35; refine (check_calls _ dep s _ Hn.out hl).mono ?_; rintro e w' ⟨rfl, rfl⟩; rw [Hq.out])
        go_quiet (first | (go_at_call 36; refine Calls.quiet_of_same (HG.out _)))
        go_wp2_with (go_at_call 37; refine (isKey_calls key _ hks).mono ?_; rintro e w' ⟨rfl, rfl⟩; rw [Hkb.out])
        go_ret
        exact ⟨rfl, HB.out.trans (below_draws _)⟩
      | true =>
        have e3 : c = vb := by rw [← e2.out, Hkb.out, Hvb.out]; rfl
        subst e3
        go_enter Try.func28, Try.ntmps28
        go_wp2_with (go_at_call 35; refine (check_calls _ dep s _ Hn.out hl).mono ?_; rintro e w' ⟨rfl, rfl⟩; rw [Hq.out])
        go_quiet (first | (go_at_call 36; refine Calls.quiet_of_same (HG.out _)))
        go_wp2_with (first | (go_at_call 37; refine (isKey_calls key _ hks).mono ?_; rintro e w' ⟨rfl, rfl⟩; rw [Hkb.out]) | (go_at_call 38; refine (checkVal_calls val _ hvs).mono ?_; rintro e w' ⟨rfl, rfl⟩; rw [Hvb.out]))
        go_ret
        exact ⟨rfl, HB.out.trans (below_draws _)⟩
  · have e1 := e.out
    rw [if_neg hq0] at e1
    subst e1
    clear e
    have hq1 : (q != 0) = true := by simp [hq0]
    clear hq0
    go_enter Try.func28, Try.ntmps28
    go_wp2_with (go_at_call 35; refine (check_calls _ dep s _ Hn.out hl).mono ?_; rintro e w' ⟨rfl, rfl⟩; rw [Hq.out])
    go_ret
    exact ⟨rfl, HB.out⟩

set_option maxHeartbeats 400000 in
theorem recOfLaw_calls (v : Value) (r : RecD) (w : World) (hv : IsRec w v r) :
    Calls Try.prog 14 #[v] w fun e w' => e = .returned v ∧ Below w.heap.size w w' := by
  obtain ⟨site, seq, dep, key, val⟩ := r
  obtain ⟨a, cap, rfl, hn⟩ := hv
  dsimp only at *
  clear hn
  go_enter Try.func14, Try.ntmps14
  go_wp2
  refine bodyPost_ret (v := .agg #[.int .i64 site, .int .i64 seq, .slice a dep.length cap, .string key, .string val]) (by simp [results, Try.f14, go_sem]) rfl ⟨rfl, (box_below _ _).alloc (by simp) _⟩

--has landau/landaulaw2.Few
def fewR (r : RecD) : Bool := decide (r.dep.length ≤ 70 ∧ r.key.size ≤ 50 ∧ r.val.size ≤ 50)
set_option maxHeartbeats 400000 in
theorem recFew_calls (v : Value) (r : RecD) (w : World) (hv : IsRec w v r) :
    Calls Try.prog 27 #[v] w fun e w' => e = .returned (.bool (fewR r)) ∧ Below w.heap.size w w' := by
  obtain ⟨b, hb⟩ : ∃ b, fewR r = b := ⟨_, rfl⟩
  rw [hb]
  unfold fewR at hb
  obtain ⟨site, seq, dep, key, val⟩ := r
  obtain ⟨a, cap, rfl, hn⟩ := hv
  dsimp only at *
  clear hn
  have Hb := hide hb
  clear hb
  by_cases h1 : (dep.length : Int) ≤ 70
  · by_cases h2 : (key.size : Int) ≤ 50
    · by_cases h3 : (val.size : Int) ≤ 50
      · have e : b = true := by rw [← Hb.out, decide_eq_true (by omega)]
        subst e
        go_enter Try.func27, Try.ntmps27
        go_wp2
        go_ret
        exact ⟨by simp [h3], box_below _ _⟩
      · have e : b = false := by rw [← Hb.out, decide_eq_false (by omega)]
        subst e
        go_enter Try.func27, Try.ntmps27
        go_wp2
        go_ret
        exact ⟨by simp [h3], box_below _ _⟩
    · have e : b = false := by rw [← Hb.out, decide_eq_false (by omega)]
      subst e
      go_enter Try.func27, Try.ntmps27
      go_wp2
      go_ret
      exact ⟨by simp, box_below _ _⟩
  · have e : b = false := by rw [← Hb.out, decide_eq_false (by omega)]
    subst e
    go_enter Try.func27, Try.ntmps27
    go_wp2
    go_ret
    exact ⟨by simp, box_below _ _⟩

end Go.Proofs.Ytompaldhnbcikaa
