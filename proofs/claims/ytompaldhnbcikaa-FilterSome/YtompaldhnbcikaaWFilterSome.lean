/- FilterSome: the walk. Own work; no statement. -/
import Derived.Test.YtompaldhnbcikaaF14
set_option linter.unusedSimpArgs false
set_option linter.unusedVariables false
namespace Go.Proofs.Ytompaldhnbcikaa
open Go.RowKit Go.Shelf Go.Sort

set_option maxRecDepth 100000 in
set_option maxHeartbeats 8000000 in
theorem filterSome_main (n : Int) (va : Value) (asks : List Int) (w : World) (wn : (Lit.int .u8 n).wf = true) (hv : IsNums .u8 w va asks) (wv : ∀ n ∈ asks, (Lit.int .u8 n).wf = true) :
    Calls Try.prog 6 #[.int .u8 n, va] w fun e w' => e = .returned (.bool true) ∧ Go.RowKit.Below w.heap.size w w' := by
  have n0 := rng8F wn
  clear wn
  obtain ⟨k, hk, hk2⟩ := rem_natF n0.1 (show (0 : Int) < 30 by decide)
  obtain ⟨a, cap, rfl, hcap, hcell⟩ := hv
  replace wv := hide wv
  replace hcell := hide hcell
  by_cases hlong : 40 < (asks.length : Int)
  · go_enter Try.func6, Try.ntmps6
    go_wp2_with fail
    refine (filKnown_calls w).mono ?_
    rintro e w1 ⟨rfl, b1⟩
    go_wp2_with fail
    go_ret
    exact ⟨rfl, b1⟩
  go_enter Try.func6, Try.ntmps6
  go_wp2_with fail
  refine (filKnown_calls w).mono ?_
  rintro e w1 ⟨rfl, b1⟩
  go_wp2_with fail
  refine (filNew_calls 1 64 w1 (by decide)).mono ?_
  rintro e w2 ⟨rfl, hf, hb⟩
  obtain ⟨p, b, hp, A2⟩ := new_at hf hb b1
  rw [← hp]
  clear hf hb hp b1
  go_wp2_with fail
  go_loopw [8] (fun i wr => ∃ x : Nat, x ≤ k ∧ i = .int .i64 (x : Int) ∧ AtF w wr p b ⟨1, 64, 1, descL x (k - x)⟩) (fun i _ => (intOf i).toNat)
  case atStart => exact ⟨k, Nat.le_refl _, rfl, by rw [Nat.sub_self]; exact A2⟩
  case round =>
    obtain ⟨x, hx, rfl, AF⟩ := hrel
    by_cases h1 : 1 ≤ x
    · obtain ⟨y, rfl⟩ : ∃ y, x = y + 1 := ⟨x - 1, by omega⟩
      have hge : (1 : Int) ≤ ((y + 1 : Nat) : Int) := by omega
      have hE := putE_new (F := ⟨1, 64, 1, descL (y + 1) (k - (y + 1))⟩) rfl (n := ((y + 1 : Nat) : Int)) (by omega) (fun r hr => by have := descL_mem _ _ r hr; omega) (by dsimp only; omega) (by dsimp only; omega)
      have e1 : descL (y + 1) (k - (y + 1)) ++ [rR ((y + 1 : Nat) : Int)] = descL y (k - y) := by
        rw [show k - y = (k - (y + 1)) + 1 by omega, descL_snoc]
        rfl
      dsimp only at hE
      rw [e1] at hE
      go_wp2_with fail
      refine (lawR7_calls ((y + 1 : Nat) : Int) wr).mono ?_
      rintro e w3 ⟨v, rfl, hv, hb⟩
      have A3 := AF.new hb
      clear AF hb e1
      go_wp2_with fail
      refine (putR_on v _ 0 _ hE w3 A3 hv).mono ?_
      rintro e w4 ⟨rfl, A4, -⟩
      clear A3 hv hE
      go_wp2_with fail
      exact ⟨⟨y, by omega, by go_num, A4⟩, by simp [intOf]⟩
    · obtain rfl : x = 0 := by omega
      rw [Nat.sub_zero] at AF
      have A5 : AtF w wr p b (descF 0 k) := AF
      clear AF
      go_wp2_with fail
      go_loopw [9, 10] (fun nx i wr => ∃ (m i' : Nat), m ≤ k ∧ i' ≤ asks.length ∧ nx = .int .i64 (1 + (m : Int)) ∧ i = .int .i64 (i' : Int) ∧ AtF w wr p b (descF m (k - m))) (fun _ i _ => asks.length - (intOf i).toNat)
      case atStart => exact ⟨0, 0, Nat.zero_le _, Nat.zero_le _, rfl, rfl, A5⟩
      case round =>
        obtain ⟨m, i', hm, hi, rfl, rfl, AF⟩ := hrel
        by_cases hkl : i' < asks.length
        · have hltI : (i' : Int) < (asks.length : Int) := by omega
          obtain ⟨vb, vo, rfl, hc⟩ := hcell.out i' hkl
          have hc2 := (World.cell?_of_block (a := ⟨vb, vo + i', none⟩) (AF.bel.block vb (World.block_lt_of_cell? w _ hc))).trans hc
          have hx := rng8F (wv.out (asks.getD i' 0) (by rw [List.getD_eq_getElem?_getD, List.getElem?_eq_getElem hkl]; exact List.getElem_mem _))
          generalize asks.getD i' 0 = x at *
          obtain ⟨q, hq, hq2⟩ := rem_natF hx.1 (show (0 : Int) < 5 by decide)
          have hrd := descF_ready (k - m) m AF.fil.ok
          have C := taken_any q (by omega) wr AF
          rw [hrd, upL_length, descF_takes _ m _ (Nat.min_le_right _ _)] at C
          obtain ⟨t, ht⟩ : ∃ t, min q (k - m) = t := ⟨_, rfl⟩
          have hL : ((upL m (k - m)).take q).length = t := by rw [List.length_take, upL_length, ht]
          have htk : t ≤ k - m := by omega
          have hLg : ∀ j (hj : j < ((upL m (k - m)).take q).length), ((upL m (k - m)).take q)[j].seq = (m : Int) + (j : Int) + 1 := fun j hj => by
            rw [List.getElem_take]
            exact upL_get m (k - m) j (by rw [upL_length]; omega)
          rw [ht] at C
          generalize (upL m (k - m)).take q = L at *
          replace C := hide C
          replace hLg := hide hLg
          clear hrd
          go_wp2_with fail
          refine C.out.mono ?_
          rintro e w3 ⟨v, rfl, hl, A3, -⟩
          obtain ⟨la, lc, rfl, hlc⟩ := hl.form
          rw [hL]
          have hlc' := hide hlc
          clear C AF hlc hc2
          go_wp2_with fail
          go_loopw [9, 14] (fun nx j wr => ∃ j' : Nat, j' ≤ t ∧ nx = .int .i64 (1 + (m : Int) + (j' : Int)) ∧ j = .int .i64 (j' : Int) ∧ wr = w3) (fun _ j _ => t - (intOf j).toNat)
          case atStart =>
            refine ⟨0, Nat.zero_le _, ?_⟩
            simp
          case round =>
            obtain ⟨j', hj, rfl, rfl, rfl⟩ := hrel
            by_cases hjt : j' < t
            · have hjI : (j' : Int) < (t : Int) := by omega
              obtain ⟨g, rfl, hcj⟩ := hlc'.out j' (by omega)
              rw [hLg.out j' (by omega), show (m : Int) + (j' : Int) + 1 = 1 + (m : Int) + (j' : Int) by omega] at hcj
              go_wp2_with fail
              exact ⟨⟨j' + 1, by omega, by go_num⟩, by simp [intOf]; omega⟩
            · obtain rfl : j' = t := by omega
              have hjn : ¬ (j' : Int) < (j' : Int) := by omega
              go_wp2_with fail
              refine (filLen_calls p b _ _ A3.fil).mono ?_
              rintro e w' ⟨rfl, rfl⟩
              dsimp only [descF]
              rw [descL_length]
              go_wp2_with fail
              refine (filNext_calls p b _ _ A3.fil).mono ?_
              rintro e w' ⟨rfl, rfl⟩
              dsimp only [descF]
              go_wp2_with fail
              refine ⟨⟨_, _, _, _, _, _, _, _, _, _, _, _, _, _, _, _, _, _, _, _, _, _, _, _, _, _, _, _, _, _, _, _, _, _, _, _, _, _, _, _, _, _, _, _, _, _, _, _, _, _, _, _, _, _, _, _, _, _, _, _, _, _, _, _, _, _, ?rel, rfl⟩, ?measure⟩
              case rel => exact ⟨m + j', i' + 1, by omega, by omega, by go_num, by go_num, by rw [← Nat.sub_sub]; exact A3⟩
              case measure => simp [intOf]; omega
        · have hnl : ¬ (i' : Int) < (asks.length : Int) := by omega
          go_wp2_with fail
          go_ret
          exact ⟨rfl, AF.bel⟩

end Go.Proofs.Ytompaldhnbcikaa
