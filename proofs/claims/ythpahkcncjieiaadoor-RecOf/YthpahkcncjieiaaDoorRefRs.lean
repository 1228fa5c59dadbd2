/- The reference's Get, Covers, SameVec, SameRec at vectors as long as may lie in memory. Own work; no statement. -/
import Derived.Test.YthpahkcncjieiaaDoorRefR
set_option linter.unusedSimpArgs false
set_option linter.unusedVariables false
namespace Go.Proofs.YthpahkcncjieiaaDoor
open Go.RowKit Go.Sort

set_option maxHeartbeats 400000 in
theorem refGet2_calls (v : Value) (l : List Int) (i : Int) (w : World) (hv : IsNums .i64 w v l) (hl : l.length ≤ 17592186044416) :
    Calls Tryd.prog 51 #[v, .int .i64 i] w fun e w' => e = .returned (.int .i64 (geti l i)) ∧ w' = w := by
  by_cases h0 : i < 0
  · have e : geti l i = 0 := by unfold geti; rw [if_pos (.inl h0)]
    rw [e]
    obtain ⟨a, cap, rfl, -, -⟩ := hv
    go_enter Tryd.func51, Tryd.ntmps51
    go_wp2
    go_ret
    exact ⟨rfl, rfl⟩
  · by_cases h1 : (l.length : Int) ≤ i
    · have e : geti l i = 0 := by unfold geti; rw [if_pos (.inr h1)]
      rw [e]
      obtain ⟨a, cap, rfl, -, -⟩ := hv
      go_enter Tryd.func51, Tryd.ntmps51
      go_wp2
      go_ret
      exact ⟨rfl, rfl⟩
    · have e : geti l i = l.getD i.toNat 0 := by unfold geti; rw [if_neg (by omega)]
      rw [e]
      obtain ⟨n, rfl⟩ := Int.eq_ofNat_of_zero_le (show 0 ≤ i by omega)
      rcases hv.cases with ⟨rfl, -⟩ | ⟨b, o, cap, rfl, -, hc, hb, hcell⟩
      · exact absurd h1 (by simp)
      · have hcl := hcell n (by omega)
        have hlt : (n : Int) < (l.length : Int) := by omega
        clear hcell hv e
        go_enter Tryd.func51, Tryd.ntmps51
        go_wp2
        go_ret
        exact ⟨by simp, rfl⟩

set_option maxHeartbeats 1000000 in
theorem refCovers2_calls (va vb : Value) (a b : List Int) (w : World) (ha : IsNums .i64 w va a) (hb : IsNums .i64 w vb b) (hla : a.length ≤ 17592186044416) (hlb : b.length ≤ 17592186044416) :
    Calls Tryd.prog 37 #[va, vb] w fun e w' => e = .returned (.bool (everyB covB a b)) ∧ w' = w := by
  obtain ⟨a1, capa, rfl, -, -⟩ := id ha
  obtain ⟨b1, capb, rfl, -, -⟩ := id hb
  have Ha := hide ha
  have Hb := hide hb
  clear ha hb
  go_enter Tryd.func37, Tryd.ntmps37
  go_wp2
  go_loop [5] (fun i => ∃ k : Nat, i = .int .i64 (k : Int) ∧ k ≤ max a.length b.length ∧ ∀ j : Nat, j < k → covB (geti a j) (geti b j) = true) (fun i => max a.length b.length - (intOf i).toNat)
  case atStart => exact ⟨0, rfl, Nat.zero_le _, fun j h => absurd h (Nat.not_lt_zero j)⟩
  case round =>
    obtain ⟨k, rfl, hkn, hall⟩ := hrel
    replace hall := hide hall
    by_cases hk : k < max a.length b.length
    · have hcase : (k : Int) < (a.length : Int) ∨ (¬ (k : Int) < (a.length : Int) ∧ (k : Int) < (b.length : Int)) := by omega
      rcases hcase with hk1 | ⟨hk1, hk2⟩
      all_goals
        cases hf : covB (geti a k) (geti b k)
        · have hlt : geti a k < geti b k := by simpa [covB] using hf
          have hf' := hide hf
          clear hf
          go_wp2_with (first | (go_at_call_of 51 (Value.slice a1 a.length capa); refine (refGet2_calls _ _ _ _ Ha.out hla).mono ?_; rintro e w' ⟨rfl, rfl⟩) | (go_at_call_of 51 (Value.slice b1 b.length capb); refine (refGet2_calls _ _ _ _ Hb.out hlb).mono ?_; rintro e w' ⟨rfl, rfl⟩))
          go_ret
          refine ⟨?_, rfl⟩
          rw [everyB_no covB a b k hk (by rw [← geti_nat, ← geti_nat]; exact hf'.out)]
          rfl
        · have hlt : ¬ geti a k < geti b k := by simpa [covB] using hf
          have hf' := hide hf
          clear hf
          go_wp2_with (first | (go_at_call_of 51 (Value.slice a1 a.length capa); refine (refGet2_calls _ _ _ _ Ha.out hla).mono ?_; rintro e w' ⟨rfl, rfl⟩) | (go_at_call_of 51 (Value.slice b1 b.length capb); refine (refGet2_calls _ _ _ _ Hb.out hlb).mono ?_; rintro e w' ⟨rfl, rfl⟩))
          refine ⟨⟨k + 1, by go_num, by omega, fun j hj => ?_⟩, by simp [intOf]; omega⟩
          by_cases e : j = k
          · rw [e]; exact hf'.out
          · exact hall.out j (by omega)
    · have hk1 : ¬ (k : Int) < (a.length : Int) := by omega
      have hk2 : ¬ (k : Int) < (b.length : Int) := by omega
      go_wp2
      go_ret
      refine ⟨?_, rfl⟩
      rw [everyB_yes covB a b (fun i hi => by rw [← geti_nat, ← geti_nat]; exact hall.out i (by omega))]
      rfl

set_option maxHeartbeats 400000 in
theorem refSame2_calls (va vb : Value) (a b : List Int) (w : World) (ha : IsNums .i64 w va a) (hb : IsNums .i64 w vb b) (hla : a.length ≤ 17592186044416) (hlb : b.length ≤ 17592186044416) :
    Calls Tryd.prog 18 #[va, vb] w fun e w' => e = .returned (.bool (everyB eqB a b)) ∧ w' = w := by
  rw [same_cov]
  cases h1 : everyB covB a b
  all_goals
    have c1 := hide (refCovers2_calls va vb a b w ha hb hla hlb)
    have c2 := hide (refCovers2_calls vb va b a w hb ha hlb hla)
    rw [h1] at c1
    generalize everyB covB b a = d at *
    clear ha hb h1
    go_enter Tryd.func18, Tryd.ntmps18
    go_wp2_with fail
    refine c1.out.mono ?_
    rintro e w' ⟨rfl, rfl⟩
    go_wp2_with fail
  · go_ret
    exact ⟨rfl, rfl⟩
  · refine c2.out.mono ?_
    rintro e w' ⟨rfl, rfl⟩
    go_wp2_with fail
    go_ret
    exact ⟨by simp, rfl⟩

set_option maxHeartbeats 2000000 in
theorem refSameRec2_calls (va vb : Value) (a b : RecD) (w : World) (ha : IsRec w va a) (hb : IsRec w vb b) (hla : a.dep.length ≤ 17592186044416) (hlb : b.dep.length ≤ 17592186044416) :
    Calls Tryd.prog 7 #[va, vb] w fun e w' => e = .returned (.bool (sameR a b)) ∧ Below w.heap.size w w' := by
  obtain ⟨c, hc⟩ : ∃ c, sameR a b = c := ⟨_, rfl⟩
  rw [hc]
  unfold sameR at hc
  obtain ⟨site, seq, dep, key, val⟩ := a
  obtain ⟨a, cap, rfl, hn⟩ := ha
  obtain ⟨site', seq', dep', key', val'⟩ := b
  obtain ⟨a', cap', rfl, hn'⟩ := hb
  dsimp only at *
  have HB := hide ((box_below w (.cells #[.int .i64 site, .int .i64 seq, .slice a dep.length cap, .string key, .string val] 33)).alloc (by simp) (.cells #[.int .i64 site', .int .i64 seq', .slice a' dep'.length cap', .string key', .string val'] 33))
  have Hn := hide (hn.below HB.out)
  have Hn' := hide (hn'.below HB.out)
  have Hc := hide hc
  clear hc hn hn'
  obtain ⟨sv, hsv⟩ : ∃ sv, everyB eqB dep dep' = sv := ⟨_, rfl⟩
  have Hsv := hide hsv
  clear hsv
  by_cases h0 : site = site'
  case neg =>
    have e : c = false := by rw [← Hc.out, decide_eq_false h0]; simp
    subst e
    have h0' : (site == site') = false := by simp [h0]
    clear h0 Hc
    go_enter Tryd.func7, Tryd.ntmps7
    go_wp2_with (go_at_call 18; refine (refSame2_calls _ _ dep dep' _ Hn.out Hn'.out hla hlb).mono ?_; rintro e w' ⟨rfl, rfl⟩; rw [Hsv.out])
    go_ret
    exact ⟨rfl, HB.out⟩
  subst h0
  by_cases h1 : seq = seq'
  case neg =>
    have e : c = false := by rw [← Hc.out, decide_eq_false h1]; simp
    subst e
    have h1' : (seq == seq') = false := by simp [h1]
    clear h1 Hc
    go_enter Tryd.func7, Tryd.ntmps7
    go_wp2_with (go_at_call 18; refine (refSame2_calls _ _ dep dep' _ Hn.out Hn'.out hla hlb).mono ?_; rintro e w' ⟨rfl, rfl⟩; rw [Hsv.out])
    go_ret
    exact ⟨rfl, HB.out⟩
  subst h1
  cases sv with
  | false =>
    have e : c = false := by rw [← Hc.out, Hsv.out]; simp
    subst e
    clear Hc
    go_enter Tryd.func7, Tryd.ntmps7
    go_wp2_with (go_at_call 18; refine (refSame2_calls _ _ dep dep' _ Hn.out Hn'.out hla hlb).mono ?_; rintro e w' ⟨rfl, rfl⟩; rw [Hsv.out])
    go_ret
    exact ⟨rfl, HB.out⟩
  | true =>
    by_cases h3 : key = key'
    case neg =>
      have e : c = false := by rw [← Hc.out, decide_eq_false h3]; simp
      subst e
      have h3' := str_ne h3
      clear h3 Hc
      go_enter Tryd.func7, Tryd.ntmps7
      go_wp2_with (go_at_call 18; refine (refSame2_calls _ _ dep dep' _ Hn.out Hn'.out hla hlb).mono ?_; rintro e w' ⟨rfl, rfl⟩; rw [Hsv.out])
      go_ret
      exact ⟨rfl, HB.out⟩
    subst h3
    by_cases h4 : val = val'
    case neg =>
      have e : c = false := by rw [← Hc.out, decide_eq_false h4]; simp
      subst e
      have h4' := str_ne h4
      clear h4 Hc
      go_enter Tryd.func7, Tryd.ntmps7
      go_wp2_with (go_at_call 18; refine (refSame2_calls _ _ dep dep' _ Hn.out Hn'.out hla hlb).mono ?_; rintro e w' ⟨rfl, rfl⟩; rw [Hsv.out])
      go_ret
      exact ⟨rfl, HB.out⟩
    subst h4
    have e : c = true := by rw [← Hc.out, Hsv.out]; simp
    subst e
    clear Hc
    go_enter Tryd.func7, Tryd.ntmps7
    go_wp2_with (go_at_call 18; refine (refSame2_calls _ _ dep dep' _ Hn.out Hn'.out hla hlb).mono ?_; rintro e w' ⟨rfl, rfl⟩; rw [Hsv.out])
    go_ret
    exact ⟨rfl, HB.out⟩

end Go.Proofs.YthpahkcncjieiaaDoor
