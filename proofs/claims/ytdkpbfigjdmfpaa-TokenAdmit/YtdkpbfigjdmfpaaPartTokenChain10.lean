/- Own work: the parts RefA of the proof, laid together. -/
import Derived.Test.YtdkpbfigjdmfpaaPartTokenChain2
/- The walks of the reference's Get, Covers, SameVec, CheckVec, Join, Meet. Own work; no statement. -/
set_option linter.unusedSimpArgs false
set_option linter.unusedVariables false
namespace Go.Proofs.Ytdkpbfigjdmfpaa
open Go.RowKit

set_option maxHeartbeats 400000 in
theorem refGet_calls (v : Value) (l : List Int) (i : Int) (w : World) (hv : IsNums .i64 w v l) (hl : l.length ≤ 1099511627776) :
    Calls Try.prog 22 #[v, .int .i64 i] w fun e w' => e = .returned (.int .i64 (geti l i)) ∧ w' = w := by
  by_cases h0 : i < 0
  · have e : geti l i = 0 := by unfold geti; rw [if_pos (.inl h0)]
    rw [e]
    obtain ⟨a, cap, rfl, -, -⟩ := hv
    go_enter Try.func22, Try.ntmps22
    go_wp2
    go_ret
    exact ⟨rfl, rfl⟩
  · by_cases h1 : (l.length : Int) ≤ i
    · have e : geti l i = 0 := by unfold geti; rw [if_pos (.inr h1)]
      rw [e]
      obtain ⟨a, cap, rfl, -, -⟩ := hv
      go_enter Try.func22, Try.ntmps22
      go_wp2
      go_ret
      exact ⟨rfl, rfl⟩
    · have e : geti l i = l.getD i.toNat 0 := by unfold geti; rw [if_neg (by omega)]
      rw [e]
      obtain ⟨n, rfl⟩ := Int.eq_ofNat_of_zero_le (show 0 ≤ i by omega)
      rcases hv.cases with ⟨rfl, -⟩ | ⟨b, o, cap, rfl, -, hc, hb, hcell⟩
      · exact absurd h1 (by simp)
      · have hcl := hcell n (by omega)
        have hlt : (n : Int) < (l.length : Int) := by omega
        clear hcell hv e
        go_enter Try.func22, Try.ntmps22
        go_wp2
        go_ret
        exact ⟨by simp, rfl⟩


set_option maxHeartbeats 400000 in
theorem refCheck_calls (v : Value) (l : List Int) (s : Int) (w : World) (hv : IsNums .i64 w v l) (hl : l.length ≤ 1099511627776) :
    Calls Try.prog 31 #[v, .int .i64 s] w fun e w' => e = .returned (.int .i64 (checkL l s)) ∧ w' = w := by
  obtain ⟨c, hc⟩ : ∃ c, checkL l s = c := ⟨_, rfl⟩
  rw [hc]
  have Hc := hide hc
  clear hc
  by_cases h1 : s < 1
  · obtain ⟨a1, cap, rfl, -, -⟩ := hv
    go_enter Try.func31, Try.ntmps31
    go_wp2
    go_ret
    exact ⟨ret_int (by rw [← Hc.out, checkL, if_pos (.inl h1)]), rfl⟩
  · by_cases h2 : 8 < s
    · obtain ⟨a1, cap, rfl, -, -⟩ := hv
      go_enter Try.func31, Try.ntmps31
      go_wp2
      go_ret
      exact ⟨ret_int (by rw [← Hc.out, checkL, if_pos (.inr h2)]), rfl⟩
    · by_cases h3 : s < (l.length : Int)
      · obtain ⟨a1, cap, rfl, -, -⟩ := hv
        go_enter Try.func31, Try.ntmps31
        go_wp2
        go_ret
        exact ⟨ret_int (by rw [← Hc.out, checkL, if_neg (by omega), if_pos h3]), rfl⟩
      · have e : checkN l = c := by rw [← Hc.out, checkL, if_neg (by omega), if_neg h3]
        clear Hc
        have E := hide e
        clear e
        rcases hv.cases with ⟨rfl, a1, cap, rfl⟩ | ⟨b, o, cap, rfl, -, hcap, hb, hcell⟩
        · have h3' : ¬ s < 0 := by omega
          go_enter Try.func31, Try.ntmps31
          go_wp2
          refine wp_loop_rounds 1 ?_
          rw [rounds_succ]
          go_wp2
          go_ret
          exact ⟨ret_int (by rw [← E.out]; rfl), rfl⟩
        · have Hcell := hide hcell
          clear hcell hv
          go_enter Try.func31, Try.ntmps31
          go_wp2
          go_loop [5] (fun i => ∃ k : Nat, i = .int .i64 (k : Int) ∧ k ≤ l.length ∧ checkN (l.drop k) = c) (fun i => l.length - (intOf i).toNat)
          case atStart => exact ⟨0, rfl, Nat.zero_le _, E.out⟩
          case round =>
            obtain ⟨k, rfl, hkn, hall⟩ := hrel
            replace hall := hide hall
            by_cases hk : k < l.length
            · have hlt' : (k : Int) < (l.length : Int) := by omega
              have hcl := Hcell.out k hk
              have hd := hide (checkN_drop l k hk)
              generalize l.getD k 0 = x at hcl hd
              by_cases hx : x < 0
              · go_wp2
                go_ret
                exact ⟨ret_int (by rw [← hall.out, hd.out, if_pos hx]), rfl⟩
              · by_cases hx2 : 1048576 < x
                · go_wp2
                  go_ret
                  exact ⟨ret_int (by rw [← hall.out, hd.out, if_neg (by omega), if_pos hx2]), rfl⟩
                · go_wp2
                  exact ⟨⟨k + 1, by go_num, by omega, by rw [← hall.out, hd.out, if_neg (by omega), if_neg (by omega)]⟩, by simp [intOf]; omega⟩
            · go_wp2
              go_ret
              exact ⟨ret_int (by rw [← hall.out, List.drop_of_length_le (by omega)]; rfl), rfl⟩


set_option maxHeartbeats 1000000 in
theorem refCovers_calls (va vb : Value) (a b : List Int) (w : World) (ha : IsNums .i64 w va a) (hb : IsNums .i64 w vb b) (hla : a.length ≤ 1099511627776) (hlb : b.length ≤ 1099511627776) :
    Calls Try.prog 23 #[va, vb] w fun e w' => e = .returned (.bool (everyB covB a b)) ∧ w' = w := by
  obtain ⟨a1, capa, rfl, -, -⟩ := id ha
  obtain ⟨b1, capb, rfl, -, -⟩ := id hb
  have Ha := hide ha
  have Hb := hide hb
  clear ha hb
  go_enter Try.func23, Try.ntmps23
  go_wp2
  go_loop [5] (fun i => ∃ k : Nat, i = .int .i64 (k : Int) ∧ k ≤ max a.length b.length ∧ ∀ j : Nat, j < k → covB (geti a j) (geti b j) = true) (fun i => max a.length b.length - (intOf i).toNat)
  case atStart => exact ⟨0, rfl, Nat.zero_le _, fun j h => absurd h (Nat.not_lt_zero j)⟩
  case round =>
    obtain ⟨k, rfl, hkn, hall⟩ := hrel
    replace hall := hide hall
    by_cases hk : k < max a.length b.length
    · have hcase : (k : Int) < (a.length : Int) ∨ (¬ (k : Int) < (a.length : Int) ∧ (k : Int) < (b.length : Int)) := by omega
      rcases hcase with hk1 | ⟨hk1, hk2⟩
      all_goals
        cases hf : covB (geti a k) (geti b k)
        · have hlt : geti a k < geti b k := by simpa [covB] using hf
          have hf' := hide hf
          clear hf
          go_wp2_with (first | (go_at_call_of 22 (Value.slice a1 a.length capa); refine (refGet_calls _ _ _ _ Ha.out hla).mono ?_; rintro e w' ⟨rfl, rfl⟩) | (go_at_call_of 22 (Value.slice b1 b.length capb); refine (refGet_calls _ _ _ _ Hb.out hlb).mono ?_; rintro e w' ⟨rfl, rfl⟩))
          go_ret
          refine ⟨?_, rfl⟩
          rw [everyB_no covB a b k hk (by rw [← geti_nat, ← geti_nat]; exact hf'.out)]
          rfl
        · have hlt : ¬ geti a k < geti b k := by simpa [covB] using hf
          have hf' := hide hf
          clear hf
          go_wp2_with (first | (go_at_call_of 22 (Value.slice a1 a.length capa); refine (refGet_calls _ _ _ _ Ha.out hla).mono ?_; rintro e w' ⟨rfl, rfl⟩) | (go_at_call_of 22 (Value.slice b1 b.length capb); refine (refGet_calls _ _ _ _ Hb.out hlb).mono ?_; rintro e w' ⟨rfl, rfl⟩))
          refine ⟨⟨k + 1, by go_num, by omega, fun j hj => ?_⟩, by simp [intOf]; omega⟩
          by_cases e : j = k
          · rw [e]; exact hf'.out
          · exact hall.out j (by omega)
    · have hk1 : ¬ (k : Int) < (a.length : Int) := by omega
      have hk2 : ¬ (k : Int) < (b.length : Int) := by omega
      go_wp2
      go_ret
      refine ⟨?_, rfl⟩
      rw [everyB_yes covB a b (fun i hi => by rw [← geti_nat, ← geti_nat]; exact hall.out i (by omega))]
      rfl

set_option maxHeartbeats 400000 in
theorem refSame_calls (va vb : Value) (a b : List Int) (w : World) (ha : IsNums .i64 w va a) (hb : IsNums .i64 w vb b) (hla : a.length ≤ 1099511627776) (hlb : b.length ≤ 1099511627776) :
    Calls Try.prog 25 #[va, vb] w fun e w' => e = .returned (.bool (everyB eqB a b)) ∧ w' = w := by
  rw [same_cov]
  cases h1 : everyB covB a b
  all_goals
    have c1 := hide (refCovers_calls va vb a b w ha hb hla hlb)
    have c2 := hide (refCovers_calls vb va b a w hb ha hlb hla)
    rw [h1] at c1
    generalize everyB covB b a = d at *
    clear ha hb h1
    go_enter Try.func25, Try.ntmps25
    go_wp2_with fail
    refine c1.out.mono ?_
    rintro e w' ⟨rfl, rfl⟩
    go_wp2_with fail
  · go_ret
    exact ⟨rfl, rfl⟩
  · refine c2.out.mono ?_
    rintro e w' ⟨rfl, rfl⟩
    go_wp2_with fail
    go_ret
    exact ⟨by simp, rfl⟩

theorem siteJoin_take (a b : List Int) (k : Nat) (h : k < max a.length b.length) : (bySiteL max a b).take (k + 1) = (bySiteL max a b).take k ++ [max (geti a k) (geti b k)] := by
  rw [take_snoc_getD _ k (by rw [bySiteL_length]; exact h), site_get (by decide), geti_nat, geti_nat]

theorem siteMeet_take (a b : List Int) (k : Nat) (h : k < max a.length b.length) : (bySiteL min a b).take (k + 1) = (bySiteL min a b).take k ++ [min (geti a k) (geti b k)] := by
  rw [take_snoc_getD _ k (by rw [bySiteL_length]; exact h), site_get (by decide), geti_nat, geti_nat]

end Go.Proofs.Ytdkpbfigjdmfpaa
