/- Own work: the parts WLogStripes, FrameP of the proof, laid together. -/
import Derived.Test.YtjbjjfndkpcciaaGreatDoorPartLogStripes19
import Derived.Test.YtjbjjfndkpcciaaGreatDoorPartLogStripes1
import Derived.ProofKit
import Derived.OpenShut
import Derived.ShutString
import Derived.ChangeOld
import Derived.Deep.DeepHandedRow
/- LogStripes: the walk. Own work; no statement. -/
set_option linter.unusedSimpArgs false
set_option linter.unusedVariables false
namespace Go.Proofs.YtjbjjfndkpcciaaGreatDoor
open Go.RowKit Go.Shelf Go.Sort

set_option maxRecDepth 100000 in
set_option maxHeartbeats 8000000 in
theorem logStripes_main (st : Int) (n : Int) (wh : Int) (w : World) (ws : (Lit.int .u8 st).wf = true) (wn : (Lit.int .u8 n).wf = true) (ww : (Lit.int .u8 wh).wf = true) (hp : Pow w) :
    Calls Tryz.prog 5 #[.int .u8 st, .int .u8 n, .int .u8 wh] w fun e w' => e = .returned (.bool true) ∧ Go.RowKit.Below w.heap.size w w' := by
  have s0 : 0 ≤ st ∧ st ≤ 255 := rng8 ws
  have n0 : 0 ≤ n ∧ n ≤ 255 := rng8 wn
  have w0 : 0 ≤ wh ∧ wh ≤ 255 := rng8 ww
  obtain ⟨a, ha, ha8⟩ := rem_nat s0.1 (show (0 : Int) < 8 by decide)
  obtain ⟨c, hc, hc40⟩ := rem_nat n0.1 (show (0 : Int) < 40 by decide)
  obtain ⟨b, hb, hbk⟩ := rem_nat w0.1 (show (0 : Int) < 1 + (a : Int) by omega)
  have hk1 : (1 : Int) ≤ 1 + (a : Int) := by omega
  have hk8 : 1 + (a : Int) ≤ 8 := by omega
  have hkz : ¬ 1 + (a : Int) = 0 := by omega
  go_enter Tryz.func5, Tryz.ntmps5
  go_wp2_with fail
  refine (logKnown_calls w hp).mono ?_
  rintro e w1 ⟨rfl, b1⟩
  have hp1 : Pow w1 := hp.below b1
  go_wp2_with fail
  refine (new_at w1 w1 (1 + (a : Int)) 100000 (Below.refl _ w1) hk1 hk8 (by decide) (by decide)).mono ?_
  rintro e w2 ⟨p, rfl, A2⟩
  have T2 : Hid (ST (newL (1 + (a : Int)) 100000) (1 + (a : Int)) 100000 0 0) := hide ⟨inv_new sf hk1 hk8, rfl, rfl, rfl, rfl, rfl, rfl⟩
  have A2 := hide A2
  go_wp2_with fail
  have S2 : Hid (Sy (newL (1 + (a : Int)) 100000) fun _ => false) := hide (new_sy _ _)
  have F2 : Hid (Full (newL (1 + (a : Int)) 100000)) := hide (new_full _ _)
  have hcs : (c : Int) ≤ 39 := by omega
  go_loopw [12] (fun i wr => ∃ (j : Nat) (L : LogD), j ≤ c ∧ i = .int .i64 (j : Int) ∧ At w1 wr p L ∧ ST L (1 + (a : Int)) 100000 (j : Int) j ∧ Sy L (fun _ => false) ∧ Full L) (fun i _ => c - (intOf i).toNat)
  case atStart => exact ⟨0, _, Nat.zero_le _, rfl, A2.out, T2.out, S2.out, F2.out⟩
  case round =>
    obtain ⟨j, L, hj, rfl, hA, hT, hS, hF⟩ := hrel
    clear A2 T2 S2 F2
    have HA := hide hA
    have HT := hide hT
    have HS := hide hS
    have HF := hide hF
    clear hA hT hS hF
    by_cases hlt : j < c
    · have hltI : (j : Int) < (c : Int) := by omega
      go_wp2_with fail
      refine (r6_calls 0 ((j : Int) + 1) _).mono ?_
      rintro e w3 ⟨rfl, b3⟩
      have u := hide (st_put (HA.out.keep b3) HT.out hp1 (by omega) (by omega) (by omega))
      clear b3
      go_wp2_with fail
      refine u.out.mono ?_
      rintro e w4 ⟨rfl, L4, A4, T4, Y4, F4⟩
      have HY := hide (Y4 _ HS.out rfl)
      have HF4 := hide (F4 HF.out)
      have HA4 := hide A4
      have HT4 := hide T4
      clear A4 T4 Y4 F4 u
      go_wp2_with fail
      exact ⟨⟨j + 1, L4, by omega, by go_num, HA4.out, by rw [Int.natCast_succ]; exact HT4.out, HY.out, HF4.out⟩, by simp [intOf]; omega⟩
    · obtain rfl : j = c := by omega
      go_wp2_with fail
      go_loopw [13] (fun i wr => ∃ (q : Nat) (M : LogD), q ≤ 8 ∧ i = .int .i64 (q : Int) ∧ At w1 wr p M ∧ ST M (1 + (a : Int)) 100000 (j : Int) j ∧ Sy M (fun i => decide (i < q ∧ i ≠ b)) ∧ Full M) (fun i _ => 8 - (intOf i).toNat)
      case atStart => exact ⟨0, L, by omega, rfl, HA.out, HT.out, by simpa using HS.out, HF.out⟩
      case round =>
        obtain ⟨q, M, hq, rfl, hA, hT, hS, hF⟩ := hrel
        clear HA HT HS HF
        have HA := hide hA
        have HT := hide hT
        have HS := hide hS
        have HF := hide hF
        clear hA hT hS hF
        by_cases hlt8 : q < 8
        · have hlt8I : (q : Int) < 8 := by omega
          by_cases hqb : q = b
          · have hqe : ((q : Int) != (b : Int)) = false := by simp [hqb]
            have hS2 : Sy M (fun i => decide (i < q + 1 ∧ i ≠ b)) := fun i S hi => by
              have := HS.out i S hi
              have e : (decide (i < q + 1 ∧ i ≠ b)) = decide (i < q ∧ i ≠ b) := by
                rw [decide_eq_decide]
                omega
              show S.D.lasts = if decide (i < q + 1 ∧ i ≠ b) = true then S.D.lines.length else 0
              rw [e]
              exact this
            have HS2 := hide hS2
            have Hqb := hide hqb
            clear hS2 hqb
            go_wp2_with fail
            exact ⟨⟨q + 1, M, by omega, by go_num, HA.out, HT.out, HS2.out, HF.out⟩, by simp [intOf]; omega⟩
          · have hqe : ((q : Int) != (b : Int)) = true := by simp; omega
            have u := sync_at HA.out HT.out.inv q hlt8
            rw [st_waits HT.out hk1 hk8 HS.out HF.out hlt8, show (!decide (q < q ∧ q ≠ b)) = true by simp, Bool.true_and] at u
            have u := hide u
            have hfin : ∀ h', (M.syncS q h').Inv sf j → (ST (M.syncS q h') (1 + (a : Int)) 100000 (j : Int) j ∧ Sy (M.syncS q h') (fun i => decide (i < q + 1 ∧ i ≠ b)) ∧ Full (M.syncS q h')) := fun h' hI => by
              refine ⟨st_sync HT.out hI, fun i S hi => ?_, sync_full HT.out.inv.fm.eight hlt8 HF.out h'⟩
              have := sync_sy HT.out.inv.fm.eight HS.out hlt8 h' i S hi
              have e : (decide (i < q + 1 ∧ i ≠ b)) = (if i = q then true else decide (i < q ∧ i ≠ b)) := by
                split
                · rename_i h
                  rw [h]
                  simp
                  exact hqb
                · rw [decide_eq_decide]
                  omega
              show S.D.lasts = if decide (i < q + 1 ∧ i ≠ b) = true then S.D.lines.length else 0
              rw [e]
              exact this
            have Hfin := hide hfin
            have Hqb := hide hqb
            clear hfin hqb
            by_cases hq1 : (q : Int) < 1 + (a : Int)
            · rw [decide_eq_true hq1, Bool.true_and] at u
              by_cases hq2 : (q : Int) < (j : Int)
              · rw [decide_eq_true hq2] at u
                go_wp2_with fail
                refine u.out.mono ?_
                rintro e w4 ⟨rfl, h', A4, I4⟩
                have HA4 := hide A4
                have HI4 := hide I4
                clear A4 I4 u
                go_wp2_with fail
                exact ⟨⟨q + 1, _, by omega, by go_num, HA4.out, (Hfin.out h' HI4.out).1, (Hfin.out h' HI4.out).2.1, (Hfin.out h' HI4.out).2.2⟩, by simp [intOf]; omega⟩
              · rw [decide_eq_false hq2] at u
                go_wp2_with fail
                refine u.out.mono ?_
                rintro e w4 ⟨rfl, h', A4, I4⟩
                have HA4 := hide A4
                have HI4 := hide I4
                clear A4 I4 u
                go_wp2_with fail
                exact ⟨⟨q + 1, _, by omega, by go_num, HA4.out, (Hfin.out h' HI4.out).1, (Hfin.out h' HI4.out).2.1, (Hfin.out h' HI4.out).2.2⟩, by simp [intOf]; omega⟩
            · rw [decide_eq_false hq1, Bool.false_and] at u
              go_wp2_with fail
              refine u.out.mono ?_
              rintro e w4 ⟨rfl, h', A4, I4⟩
              have HA4 := hide A4
              have HI4 := hide I4
              clear A4 I4 u
              go_wp2_with fail
              exact ⟨⟨q + 1, _, by omega, by go_num, HA4.out, (Hfin.out h' HI4.out).1, (Hfin.out h' HI4.out).2.1, (Hfin.out h' HI4.out).2.2⟩, by simp [intOf]; omega⟩
        · have hlt8I : ¬ (q : Int) < 8 := by omega
          obtain rfl : q = 8 := by omega
          have hhead : M.head = min (b : Int) (j : Int) := by
            have hk : ∀ x : Int, 0 ≤ x → M.k x = (x % (1 + (a : Int))).toNat := fun x h => k_one HT.out.map hk1 hk8 h
            refine head_is HT.out.inv HS.out (by rw [HT.out.trim]; omega) (by rw [HT.out.next]; omega) (fun x x0 x1 => ?_) ?_
            · rw [HT.out.trim] at x0
              rw [hk x x0, Int.emod_eq_of_lt x0 (by omega)]
              simp
              omega
            · rcases Int.lt_or_le (b : Int) (j : Int) with h | h
              · refine .inr ?_
                rw [Int.min_eq_left (by omega), hk _ (by omega), Int.emod_eq_of_lt (by omega) (by omega)]
                simp
              · exact .inl (by rw [HT.out.next, Int.min_eq_right h])
          have hb8 : b < 8 := by omega
          have u := sync_at HA.out HT.out.inv b hb8
          rw [st_waits HT.out hk1 hk8 HS.out HF.out hb8, show (!decide (b < 8 ∧ b ≠ b)) = true by simp, Bool.true_and, decide_eq_true hbk, Bool.true_and] at u
          have u := hide u
          have Hh := hide hhead
          clear hhead
          go_wp2_with fail
          refine (head_at HA.out).mono ?_
          rw [Hh.out]
          rintro e w5 ⟨rfl, rfl⟩
          go_wp2_with fail
          refine u.out.mono ?_
          rintro e w6 ⟨rfl, h', A6, I6⟩
          have T6 := st_sync HT.out I6
          have S6 := sync_sy HT.out.inv.fm.eight HS.out hb8 h'
          have F6 := sync_full HT.out.inv.fm.eight hb8 HF.out h'
          have hd6 : (M.syncS b h').head = (j : Int) := by
            have hall : Sd (M.syncS b h') fun i => i < 8 := fun i S hS hi => by
              have := S6 i S hS
              rw [if_pos (by
                show (if i = b then true else decide (i < 8 ∧ i ≠ b)) = true
                by_cases e : i = b
                · rw [if_pos e]
                · rw [if_neg e]
                  simp
                  exact ⟨hi, e⟩)] at this
              exact this
            rw [(sd_all I6 hall).2]
            exact T6.next
          have u2 := sync_at A6 I6 b hb8
          rw [st_waits T6 hk1 hk8 S6 F6 hb8, if_pos rfl, Bool.not_true, Bool.false_and] at u2
          generalize M.syncS b h' = M6 at *
          have U2 := hide u2
          have HA6 := hide A6
          have HT6 := hide T6
          have Hd6 := hide hd6
          clear A6 T6 S6 F6 I6 hd6 u2 u
          go_wp2_with fail
          refine (head_at HA6.out).mono ?_
          rw [Hd6.out]
          rintro e w7 ⟨rfl, rfl⟩
          go_wp2_with fail
          refine U2.out.mono ?_
          rintro e w8 ⟨rfl, h'', A8, I8⟩
          have HA8 := hide A8
          have hn8 : (M6.syncS b h'').next = (j : Int) := HT6.out.next
          generalize M6.syncS b h'' = M8 at *
          have Hn8 := hide hn8
          clear A8 I8 U2 hn8
          go_wp2_with fail
          refine (next_at HA8.out).mono ?_
          rw [Hn8.out]
          rintro e w9 ⟨rfl, rfl⟩
          go_wp2_with fail
          go_ret
          exact ⟨rfl, b1.trans (HA8.out.below.mono b1.size)⟩

end Go.Proofs.YtjbjjfndkpcciaaGreatDoor

/- What the proofs of the statements share: slices that came in. Own work; no statement. -/
set_option linter.unusedSimpArgs false
set_option linter.unusedVariables false
namespace Go.Proofs.YtjbjjfndkpcciaaGreatDoor
open Go.ChangeShapes Go.WideShapes Go.ChangeAt Go.RowKit

theorem own : ownKnob Tryz.prog.godebug = none := by kernel_rfl
theorem laidOut : laidOutB Tryz.prog = true := by kernel_rfl

/-- A slice of integers that came in: what it reads as; its numbers fit their kind. -/
theorem nums_of_open {H : Type} {enc : TypeId × Value → H} {W : World} {base : Nat} {sp : Nat → Bool} {held : Bool} {t e : TypeId} {k : IntKind} {fuel : Nat} {a : Option Addr} {len cap : Nat} {x : DataW H × List MemPlace}
    (ht : Tryz.prog.underlying t = some (.slice e)) (he : Tryz.prog.underlying e = some (.int k)) (hc : Tryz.prog.cellsOf e = 1) (h : DataW.trod enc Tryz.prog W base sp held fuel t [.slice a len cap] = some x) (hsp : ∀ b, sp b = true) :
    ∃ zs : List Int, IsNums k W (.slice a len cap) zs ∧ (∀ n ∈ zs, (Lit.int k n).wf = true) := by
  rcases open_ints ht he hc h with ⟨hcs, _⟩ | ⟨y, l, c, zs, hcs, _, hl, hm, hz, _, hcell, hwz⟩
  · simp at hcs
    obtain ⟨rfl, rfl, rfl⟩ := hcs
    exact ⟨[], IsNums.nil _ _ _ _, fun n hn => absurd hn (by simp)⟩
  · simp at hcs
    obtain ⟨rfl, rfl, rfl⟩ := hcs
    rw [hsp, if_pos rfl] at hz
    have hlen : (zs.take len).length = len := by simp; omega
    refine ⟨zs.take len, ⟨some y, cap, by rw [hlen], by omega, fun i hi => ?_⟩, fun n hn => hwz n (List.mem_of_mem_take hn)⟩
    obtain ⟨b, off, rfl, hc'⟩ := ints_at hcell (by omega)
    refine ⟨b, off, rfl, ?_⟩
    rw [hc' i (by omega)]
    simp [List.getD, List.getElem?_take, show i < len by omega]

end Go.Proofs.YtjbjjfndkpcciaaGreatDoor
