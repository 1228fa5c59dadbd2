/- BatchOrder: the walk. Own work; no statement. -/
import Derived.Test.YtpkjkhpnhcbciaaB8
set_option linter.unusedSimpArgs false
set_option linter.unusedVariables false
namespace Go.Proofs.Ytpkjkhpnhcbciaa
open Go.RowKit Go.Shelf Go.Sort

set_option maxRecDepth 100000 in
set_option maxHeartbeats 8000000 in
theorem batchOrder_main (sz rm : Int) (va : Value) (adds : List Int) (w : World) (ws : (Lit.int .u8 sz).wf = true) (wr : (Lit.int .u8 rm).wf = true) (hv : IsNums .u8 w va adds) (wv : ∀ n ∈ adds, (Lit.int .u8 n).wf = true) :
    Calls Try.prog 4 #[.int .u8 sz, .int .u8 rm, va] w fun e w' => e = .returned (.bool true) ∧ Go.RowKit.Below w.heap.size w w' := by
  have s0 := rng8B ws
  have r0 := rng8B wr
  clear ws wr
  obtain ⟨k, hk, hk2⟩ := rem_natB r0.1 (show (0 : Int) < 64 by decide)
  obtain ⟨z, hz, hz2⟩ := rem_natB s0.1 (show (0 : Int) < 1 + (k : Int) by omega)
  obtain ⟨a, cap, rfl, hcap, hcell⟩ := hv
  replace wv := hide wv
  replace hcell := hide hcell
  have hk0 : ¬ 1 + (k : Int) = 0 := by omega
  by_cases hlong : 40 < (adds.length : Int)
  · go_enter Try.func4, Try.ntmps4
    go_wp2_with fail
    refine (batKnown_calls w).mono ?_
    rintro e w1 ⟨rfl, b1⟩
    go_wp2_with fail
    go_ret
    exact ⟨rfl, b1⟩
  go_enter Try.func4, Try.ntmps4
  go_wp2_with fail
  refine (batKnown_calls w).mono ?_
  rintro e w1 ⟨rfl, b1⟩
  go_wp2_with fail
  refine (bnew_on (1 + (z : Int)) (1 + (k : Int)) (by omega) w1 b1).mono ?_
  rintro e w2 ⟨p, rfl, A2⟩
  clear b1
  go_wp2_with fail
  go_loopw [11, 12, 13] (fun n o i wr => ∃ (m i' : Nat) (o' : Int), i' ≤ adds.length ∧ 0 ≤ o' ∧ o' + (m : Int) ≤ 15 * (i' : Int) ∧ (m : Int) ≤ 1 + (k : Int) ∧ n = .int .i64 (o' + (m : Int)) ∧ o = .int .i64 o' ∧ i = .int .i64 (i' : Int) ∧ AtB w wr p ⟨1 + (z : Int), 1 + (k : Int), upB o' m⟩) (fun _ _ i _ => adds.length - (intOf i).toNat)
  case atStart => exact ⟨0, 0, 0, Nat.zero_le _, by omega, by omega, by omega, by simp, rfl, rfl, A2⟩
  case round =>
    obtain ⟨m, i', o', hi, ho, hb, hm, rfl, rfl, rfl, AF⟩ := hrel
    clear A2
    by_cases h1 : i' < adds.length
    · have hltL : (i' : Int) < (adds.length : Int) := by omega
      obtain ⟨vb, vo, rfl, hc⟩ := hcell.out i' h1
      have hx := rng8B (wv.out (adds.getD i' 0) (by rw [List.getD_eq_getElem?_getD, List.getElem?_eq_getElem h1]; exact List.getElem_mem _))
      generalize adds.getD i' 0 = x at *
      obtain ⟨q, hq, hq2⟩ := rem_natB hx.1 (show (0 : Int) < 16 by decide)
      go_wp2_with fail
      go_loopw [11, 14] (fun n j wr => ∃ (m2 j' : Nat), j' ≤ q ∧ (m2 : Int) ≤ (m : Int) + (j' : Int) ∧ (m2 : Int) ≤ 1 + (k : Int) ∧ n = .int .i64 (o' + (m2 : Int)) ∧ j = .int .i64 (j' : Int) ∧ AtB w wr p ⟨1 + (z : Int), 1 + (k : Int), upB o' m2⟩) (fun _ j _ => q - (intOf j).toNat)
      case atStart => exact ⟨m, 0, Nat.zero_le _, by omega, hm, rfl, rfl, AF⟩
      case round =>
        obtain ⟨m2, j', hj, hm2, hm3, rfl, rfl, AG⟩ := hrel
        have hc2 := (World.cell?_of_block (a := ⟨vb, vo + i', none⟩) (AG.bel.block vb (World.block_lt_of_cell? w _ hc))).trans hc
        by_cases h2 : j' < q
        · have hjq : (j' : Int) < (q : Int) := by omega
          by_cases h3 : (m2 : Int) < 1 + (k : Int)
          · obtain ⟨e1, e2⟩ := upB_add (z := 1 + (z : Int)) (o := o') h3
            go_wp2_with fail
            refine (badd_on _ 0 _ e1 e2 _ AG).mono ?_
            rintro e w3 ⟨rfl, A3⟩
            go_wp2_with fail
            exact ⟨⟨m2 + 1, j' + 1, by omega, by omega, by omega, by go_num, by go_num, A3⟩, by simp [intOf]; omega⟩
          · obtain ⟨e1, e2⟩ := upB_full (z := 1 + (z : Int)) (o := o') (x := o' + (m2 : Int)) (show 1 + (k : Int) ≤ (m2 : Int) by omega)
            go_wp2_with fail
            refine (badd_on _ 6 _ e1 e2 _ AG).mono ?_
            rintro e w3 ⟨rfl, A3⟩
            go_wp2_with fail
            exact ⟨⟨m2, j' + 1, by omega, by omega, by omega, rfl, by go_num, A3⟩, by simp [intOf]; omega⟩
        · obtain rfl : j' = q := by omega
          have hjq : ¬ (j' : Int) < (j' : Int) := by omega
          have hsub : o' + (m2 : Int) - o' = (m2 : Int) := by omega
          go_wp2_with fail
          refine (blen_on m2 (upB_length _ _) wr AG).mono ?_
          rintro e w' ⟨rfl, rfl⟩
          go_wp2_with fail
          obtain ⟨t, ht⟩ : ∃ t, min (1 + z) m2 = t := ⟨_, rfl⟩
          have ht1 : t ≤ 1 + z := by omega
          have ht2 : t ≤ m2 := by omega
          have hr1 : readyB ⟨1 + (z : Int), 1 + (k : Int), upB o' m2⟩ = upB o' t := by rw [upB_ready, ← ht]; congr 1
          refine (btaken_on 100 (by decide) (by decide) (upB o' t) ⟨1 + (z : Int), 1 + (k : Int), upB (o' + (t : Int)) (m2 - t)⟩ (by rw [hr1, upB_take, show min 100 t = t by omega]) (by rw [hr1, upB_length, show min 100 t = t by omega, upB_takes]) w' AG).mono ?_
          rintro e w5 ⟨vl, rfl, hl, A5⟩
          obtain ⟨la, lc, rfl, hlc⟩ := hl.up
          have hlc' := hide hlc
          have htm : min (1 + (z : Int)) (m2 : Int) = (t : Int) := by omega
          clear hl hlc hr1 AG AF
          go_wp2_with fail
          go_loopw [12, 17] (fun o j wr => ∃ j2 : Nat, j2 ≤ t ∧ o = .int .i64 (o' + (j2 : Int)) ∧ j = .int .i64 (j2 : Int) ∧ wr = w5) (fun _ j _ => t - (intOf j).toNat)
          case atStart => exact ⟨0, Nat.zero_le _, by simp, rfl, rfl⟩
          case round =>
            obtain ⟨j2, hj2, rfl, rfl, rfl⟩ := hrel
            by_cases hjt : j2 < t
            · have hjI : (j2 : Int) < (t : Int) := by omega
              obtain ⟨g, rfl, hcj⟩ := hlc'.out j2 hjt
              go_wp2_with fail
              exact ⟨⟨j2 + 1, by omega, by go_num⟩, by simp [intOf]; omega⟩
            · obtain rfl : j2 = t := by omega
              have hjn : ¬ (j2 : Int) < (j2 : Int) := by omega
              go_wp2_with fail
              exact ⟨⟨m2 - j2, i' + 1, o' + (j2 : Int), by omega, by omega, by omega, by omega, by congr 1; omega, rfl, by go_num, A5⟩, by simp [intOf]; omega⟩
    · have hltL : ¬ (i' : Int) < (adds.length : Int) := by omega
      have hsub : o' + (m : Int) - o' = (m : Int) := by omega
      go_wp2_with fail
      refine (blen_on m (upB_length _ _) wr AF).mono ?_
      rintro e w' ⟨rfl, rfl⟩
      go_wp2_with fail
      go_ret
      exact ⟨rfl, AF.bel⟩

end Go.Proofs.Ytpkjkhpnhcbciaa
