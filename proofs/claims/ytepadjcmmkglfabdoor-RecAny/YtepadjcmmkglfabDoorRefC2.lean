/- The walks of the reference's Decimal of whatever number, and VecText. Own work; no statement. -/
import Derived.Test.YtepadjcmmkglfabDoorRefB
import Derived.Test.YtepadjcmmkglfabDoorR4
set_option linter.unusedSimpArgs false
set_option linter.unusedVariables false
namespace Go.Proofs.YtepadjcmmkglfabDoor
open Go.RowKit Go.Shelf

theorem least_text : Lib.itoa (-9223372036854775808) = [45, 57, 50, 50, 51, 51, 55, 50, 48, 51, 54, 56, 53, 52, 55, 55, 53, 56, 48, 56] := by
  unfold Lib.itoa
  rw [if_pos (by decide)]
  simp [Lib.decDigits]

set_option maxRecDepth 100000 in
set_option maxHeartbeats 1000000 in
theorem refDecimal_calls (n : Int) (w : World) (h0 : -9223372036854775808 ≤ n) (h1 : n ≤ 9223372036854775807) :
    Calls Tryd.prog 48 #[.int .i64 n] w fun e w' => e = .returned (.string ⟨(Lib.itoa n).toArray⟩) ∧ Below w.heap.size w w' := by
  by_cases hn : n < 0
  · by_cases hm : n = -9223372036854775808
    · subst hm
      have hl := hide least_text
      go_enter Tryd.func48, Tryd.ntmps48
      go_wp2_with fail
      go_ret
      exact ⟨by rw [hl.out]; rfl, Below.refl _ _⟩
    · have hm' : (n == -9223372036854775808) = false := by simp [hm]
      obtain ⟨u, hu⟩ : ∃ u : Nat, -n = (u : Int) := ⟨(-n).toNat, by omega⟩
      have e : Lib.itoa n = 45 :: Lib.decDigits u := by rw [show n = -(u : Int) by omega]; exact Lib.itoa_neg u (by omega)
      replace e := hide e
      have hu1 : (u : Int) ≤ 9223372036854775807 := by omega
      have hc := hide (refDecNat_calls u w hu1)
      have hu2 : 0 - n = (u : Int) := by omega
      replace hm := hide hm
      go_enter Tryd.func48, Tryd.ntmps48
      go_wp2_with fail
      refine hc.out.mono ?_
      rintro e w1 ⟨rfl, hB⟩
      have hX := Lib.itoa_length_le (u : Int) (by omega) hu1
      rw [Lib.itoa_nonneg] at hX
      generalize Lib.decDigits u = L at *
      go_wp2_with fail
      go_ret
      exact ⟨by rw [e.out, ← cons_bytes]; rfl, hB⟩
  · obtain ⟨u, rfl⟩ := Int.eq_ofNat_of_zero_le (show 0 ≤ n by omega)
    rw [Lib.itoa_nonneg]
    exact refDecNat_calls u w h1

set_option maxRecDepth 100000 in
set_option maxHeartbeats 1000000 in
theorem refText_calls (v : Value) (l : List Int) (w : World) (hv : IsNums .i64 w v l) (hl : l.length ≤ 1048576) (hr : InR l) :
    Calls Tryd.prog 49 #[v] w fun e w' => e = .returned (.string ⟨(textL l).toArray⟩) ∧ Below w.heap.size w w' := by
  obtain ⟨pa, capa, rfl, -, -⟩ := id hv
  replace hv := hide hv
  replace hr := hide hr
  obtain ⟨c, hc⟩ : ∃ c, writtenL l = c := ⟨_, rfl⟩
  have Hc := hide hc
  have hcl := writtenL_le l
  rw [hc] at hcl
  clear hc
  go_enter Tryd.func49, Tryd.ntmps49
  go_wp2_with fail
  go_loop [3] (fun i => ∃ k : Nat, i = .int .i64 (k : Int) ∧ k ≤ l.length ∧ writtenL (l.take k) = c) (fun i => (intOf i).toNat)
  case atStart => exact ⟨l.length, rfl, Nat.le_refl _, by rw [List.take_of_length_le (Nat.le_refl _)]; exact Hc.out⟩
  case round =>
    obtain ⟨k, rfl, hkn, hall⟩ := hrel
    cases k with
    | zero =>
      have hc0 : c = 0 := by rw [← hall]; simp [writtenL]
      have htx : textL l = [91, 93] := by unfold textL; rw [Hc.out, hc0]; rfl
      replace htx := hide htx
      clear hall hc0 Hc
      go_wp2_with fail
      refine wp_loop_rounds 1 ?_
      rw [rounds_succ]
      go_wp2_with fail
      go_ret
      exact ⟨by rw [htx.out]; rfl, Below.refl _ _⟩
    | succ kk =>
      have hkl : (kk : Int) < (l.length : Int) := by omega
      rcases hv.out.cases with ⟨rfl, -, -, -⟩ | ⟨b, o, cap, hsl, -, hcap, hb, hcell⟩
      · simp at hkl
        omega
      · have hcl1 : w.cell? ⟨b, o + kk, none⟩ = _ := hcell kk (by omega)
        obtain rfl : pa = some ⟨b, o, none⟩ := by injection hsl
        have ht := take_snoc_getD l kk (by omega)
        replace hcell := hide hcell
        generalize l.getD kk 0 = y at hcl1 ht
        by_cases hy : y = 0
        · have hy1 : (y == 0) = true := by simp [hy]
          have hw : writtenL (l.take kk) = c := by rw [← hall, ht, hy, writtenL_snoc_zero]
          replace hw := hide hw
          clear hall ht hy
          go_wp2_with fail
          exact ⟨⟨kk, by go_num, by omega, hw.out⟩, by simp [intOf]⟩
        · have hy1 : (y == 0) = false := by simp [hy]
          obtain rfl : c = kk + 1 := by
            rw [ht, writtenL_snoc _ _ hy, List.length_take] at hall
            omega
          clear hall ht hy
          go_wp2_with fail
          go_loopw [4, 5] (fun s i wr => ∃ k : Nat, i = .int .i64 (k : Int) ∧ k ≤ kk + 1 ∧ s = .string ⟨(91 :: numsTo l k).toArray⟩ ∧ Below w.heap.size w wr) (fun _ i _ => kk + 1 - (intOf i).toNat)
          case atStart => exact ⟨0, rfl, Nat.zero_le _, rfl, Below.refl _ _⟩
          case round =>
            obtain ⟨k, rfl, hkc, rfl, hB⟩ := hrel
            by_cases hk : k < kk + 1
            · have hkI : (k : Int) < (kk : Int) + 1 := by omega
              have hkl : (k : Int) < (l.length : Int) := by omega
              · have hcl2 : wr.cell? ⟨b, o + k, none⟩ = _ := (hB.cell (p := ⟨b, o + k, none⟩) hb).trans (hcell.out k (by omega))
                have hxr := getD_inR hr.out k
                have hsucc : numsTo l (k + 1) = numsTo l k ++ ((if k = 0 then [] else [32]) ++ Lib.itoa (l.getD k 0)) := rfl
                generalize l.getD k 0 = x at *
                have hnl : (91 :: numsTo l k).length ≤ 22 * k + 1 := by have := numsTo_length hr.out k; simp; omega
                obtain ⟨L, hL⟩ : ∃ L, 91 :: numsTo l k = L := ⟨_, rfl⟩
                rw [hL] at hnl ⊢
                have hN : 91 :: numsTo l (k + 1) = L ++ ((if k = 0 then [] else [32]) ++ Lib.itoa x) := by rw [hsucc, ← hL]; rfl
                clear hsucc hL
                by_cases hk0 : k = 0
                · rw [if_pos hk0, List.nil_append] at hN
                  replace hN := hide hN
                  have hk1 : ¬ 0 < (k : Int) := by omega
                  replace hk0 := hide hk0
                  go_wp2_with (go_at_call 48; refine (refDecimal_calls x _ hxr.1 hxr.2).mono ?_; rintro e w2 ⟨rfl, hB2⟩; have hX := Lib.itoa_length_le x hxr.1 hxr.2; generalize Lib.itoa x = X at *)
                  exact ⟨⟨k + 1, by go_num, by omega, by rw [hN.out, app_bytes], hB.trans (hB2.mono hB.size)⟩, by simp [intOf]; omega⟩
                · rw [if_neg hk0] at hN
                  replace hN := hide hN
                  have hk1 : 0 < (k : Int) := by omega
                  replace hk0 := hide hk0
                  go_wp2_with (go_at_call 48; refine (refDecimal_calls x _ hxr.1 hxr.2).mono ?_; rintro e w2 ⟨rfl, hB2⟩; have hX := Lib.itoa_length_le x hxr.1 hxr.2; generalize Lib.itoa x = X at *)
                  refine ⟨⟨k + 1, by go_num, by omega, ?_, hB.trans (hB2.mono hB.size)⟩, by simp [intOf]; omega⟩
                  rw [hN.out, show (⟨#[32]⟩ : ByteArray) = ⟨[32].toArray⟩ from rfl, app_bytes, app_bytes, List.append_assoc]
            · obtain rfl : k = kk + 1 := by omega
              have hnl : (91 :: numsTo l (kk + 1)).length ≤ 22 * (kk + 1) + 1 := by have := numsTo_length hr.out (kk + 1); simp; omega
              have e1 : textL l = (91 :: numsTo l (kk + 1)) ++ [93] := by unfold textL; rw [Hc.out]; rfl
              replace e1 := hide e1
              generalize 91 :: numsTo l (kk + 1) = L at *
              go_wp2_with fail
              go_ret
              refine ⟨?_, hB⟩
              rw [e1.out, ← app_bytes]
              rfl

end Go.Proofs.YtepadjcmmkglfabDoor
