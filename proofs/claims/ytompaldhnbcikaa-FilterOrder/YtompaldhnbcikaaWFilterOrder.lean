/- FilterOrder: the walk. Own work; no statement. -/
import Derived.Test.YtompaldhnbcikaaF15
set_option linter.unusedSimpArgs false
set_option linter.unusedVariables false
namespace Go.Proofs.Ytompaldhnbcikaa
open Go.RowKit Go.Shelf Go.Sort

set_option maxRecDepth 100000 in
set_option maxHeartbeats 8000000 in
theorem filterOrder_main (n : Int) (va : Value) (order : List Int) (w : World) (wn : (Lit.int .u8 n).wf = true) (hv : IsNums .u8 w va order) (wv : ∀ n ∈ order, (Lit.int .u8 n).wf = true) :
    Calls Try.prog 4 #[.int .u8 n, va] w fun e w' => e = .returned (.bool true) ∧ Go.RowKit.Below w.heap.size w w' := by
  have n0 := rng8F wn
  clear wn
  obtain ⟨k, hk, hk2⟩ := rem_natF n0.1 (show (0 : Int) < 20 by decide)
  obtain ⟨a, cap, rfl, hcap, hcell⟩ := hv
  replace wv := hide wv
  replace hcell := hide hcell
  by_cases hlong : 100 < (order.length : Int)
  · go_enter Try.func4, Try.ntmps4
    go_wp2_with fail
    refine (filKnown_calls w).mono ?_
    rintro e w1 ⟨rfl, b1⟩
    go_wp2_with fail
    go_ret
    exact ⟨rfl, b1⟩
  go_enter Try.func4, Try.ntmps4
  go_wp2_with fail
  refine (filKnown_calls w).mono ?_
  rintro e w1 ⟨rfl, b1⟩
  go_wp2_with fail
  refine (filNew_calls 1 64 w1 (by decide)).mono ?_
  rintro e w2 ⟨rfl, hf, hb⟩
  obtain ⟨p, b, hp, A2⟩ := new_at hf hb b1
  rw [← hp]
  clear hf hb hp b1
  have O2 : OrdF (1 + (k : Int)) 0 ⟨1, 64, 1, []⟩ := ⟨A2.fil.ok, rfl, rfl, by dsimp only; omega, fun r hr => (by cases hr), fun x h1 h2 => (by omega)⟩
  go_wp2_with fail
  go_loopw [8, 9] (fun nx i wr => ∃ (F : FilD) (i' : Nat), i' ≤ order.length + (k + 1) ∧ nx = .int .i64 F.next ∧ i = .int .i64 (i' : Int) ∧ AtF w wr p b F ∧ OrdF (1 + (k : Int)) ((i' : Int) - (order.length : Int)) F ∧ firstF F = none) (fun _ i _ => order.length + (k + 1) - (intOf i).toNat)
  case atStart => exact ⟨_, 0, Nat.zero_le _, rfl, rfl, A2, ⟨O2.ok, O2.site, O2.room, O2.next, O2.each, fun x h1 h2 => (by simp at h2; omega)⟩, rfl⟩
  case round =>
    obtain ⟨F, i', hi, rfl, rfl, AF, OF, hf⟩ := hrel
    by_cases h1 : i' < order.length
    · have hltI : (i' : Int) < (order.length : Int) + (1 + (k : Int)) := by omega
      have hltL : (i' : Int) < (order.length : Int) := by omega
      have hkz : ¬ 1 + (k : Int) = 0 := by omega
      obtain ⟨vb, vo, rfl, hc⟩ := hcell.out i' h1
      have hc2 := (World.cell?_of_block (a := ⟨vb, vo + i', none⟩) (AF.bel.block vb (World.block_lt_of_cell? w _ hc))).trans hc
      have hx := rng8F (wv.out (order.getD i' 0) (by rw [List.getD_eq_getElem?_getD, List.getElem?_eq_getElem h1]; exact List.getElem_mem _))
      generalize order.getD i' 0 = x at *
      obtain ⟨q, hq, hq2⟩ := rem_natF hx.1 (show (0 : Int) < 1 + (k : Int) by omega)
      obtain ⟨N1, N2, N3⟩ := ordF_next (m' := ((i' + 1 : Nat) : Int) - (order.length : Int)) OF (s := 1 + (q : Int)) (by omega) (by omega) (by omega) (.inl (by omega))
      have hlen := readyL_len (putF_ok OF.ok (rR (1 + (q : Int))))
      have hsq : ∀ j (hj : j < (readyL (putF F (rR (1 + (q : Int))))).length), ((readyL (putF F (rR (1 + (q : Int)))))[j]).seq = F.next + (j : Int) := fun j hj => by
        rw [readyL_seq (putF_ok OF.ok _) j hj, putF_next]
      have hnb := OF.ok.next0
      have hnb2 := OF.ok.next1
      obtain ⟨c, hc0⟩ : ∃ c, putE F (rR (1 + (q : Int))) = c := ⟨_, rfl⟩
      obtain ⟨G, hG⟩ : ∃ G, putF F (rR (1 + (q : Int))) = G := ⟨_, rfl⟩
      rw [hG] at N1 N2 N3 hlen hsq
      replace N1 := hide N1
      replace N2 := hide N2
      replace N3 := hide N3
      replace hsq := hide hsq
      go_wp2_with fail
      refine (lawR7_calls (1 + (q : Int)) wr).mono ?_
      rintro e w3 ⟨v, rfl, hv, hb⟩
      have A3 := AF.new hb
      clear AF hb
      go_wp2_with fail
      refine (putR_on v _ c G ⟨hc0, hG⟩ w3 A3 hv).mono ?_
      rintro e w4 ⟨rfl, A4, -⟩
      clear A3 hv hc0 hG
      go_wp2_with fail
      refine (taken_on 100 (by decide) (by decide) (readyL G) (takesF (readyL G).length G) (List.take_of_length_le (by omega)) (by rw [show min 100 (readyL G).length = (readyL G).length by omega]) w4 A4).mono ?_
      rintro e w5 ⟨vl, rfl, hl, A5, -⟩
      obtain ⟨la, lc, rfl, hlc⟩ := hl.form
      generalize takesF (readyL G).length G = H at *
      obtain ⟨t, ht⟩ : ∃ t, (readyL G).length = t := ⟨_, rfl⟩
      rw [ht] at N3 ⊢
      have hlc' := hide hlc
      have htb : t ≤ 64 := by omega
      have ht' := hide ht
      clear A4 hl hlc ht
      go_wp2_with fail
      go_loopw [8, 13] (fun nx j wr => ∃ j' : Nat, j' ≤ t ∧ nx = .int .i64 (F.next + (j' : Int)) ∧ j = .int .i64 (j' : Int) ∧ wr = w5) (fun _ j _ => t - (intOf j).toNat)
      case atStart =>
        refine ⟨0, Nat.zero_le _, ?_⟩
        simp
      case round =>
        obtain ⟨j', hj, rfl, rfl, rfl⟩ := hrel
        by_cases hjt : j' < t
        · have hjI : (j' : Int) < (t : Int) := by omega
          have hjl : j' < (readyL G).length := by rw [ht'.out]; exact hjt
          obtain ⟨g, rfl, hcj⟩ := hlc'.out j' hjl
          rw [hsq.out j' hjl] at hcj
          clear hjl
          go_wp2_with fail
          exact ⟨⟨j' + 1, by omega, by go_num⟩, by simp [intOf]; omega⟩
        · obtain rfl : j' = t := by omega
          have hjn : ¬ (j' : Int) < (j' : Int) := by omega
          go_wp2_with fail
          exact ⟨⟨H, i' + 1, by omega, by rw [N3.out], by go_num, A5, N1.out, N2.out⟩, by simp [intOf]; omega⟩
    · by_cases h2 : i' < order.length + (k + 1)
      · have hltI : (i' : Int) < (order.length : Int) + (1 + (k : Int)) := by omega
        have hltL : ¬ (i' : Int) < (order.length : Int) := by omega
        obtain ⟨N1, N2, N3⟩ := ordF_next (m' := ((i' + 1 : Nat) : Int) - (order.length : Int)) OF (s := (i' : Int) - (order.length : Int) + 1) (by omega) (by omega) (by omega) (.inr ⟨by omega, rfl⟩)
        have hlen := readyL_len (putF_ok OF.ok (rR ((i' : Int) - (order.length : Int) + 1)))
        have hsq : ∀ j (hj : j < (readyL (putF F (rR ((i' : Int) - (order.length : Int) + 1)))).length), ((readyL (putF F (rR ((i' : Int) - (order.length : Int) + 1))))[j]).seq = F.next + (j : Int) := fun j hj => by
          rw [readyL_seq (putF_ok OF.ok _) j hj, putF_next]
        have hnb := OF.ok.next0
        have hnb2 := OF.ok.next1
        obtain ⟨c, hc0⟩ : ∃ c, putE F (rR ((i' : Int) - (order.length : Int) + 1)) = c := ⟨_, rfl⟩
        obtain ⟨G, hG⟩ : ∃ G, putF F (rR ((i' : Int) - (order.length : Int) + 1)) = G := ⟨_, rfl⟩
        rw [hG] at N1 N2 N3 hlen hsq
        replace N1 := hide N1
        replace N2 := hide N2
        replace N3 := hide N3
        replace hsq := hide hsq
        go_wp2_with fail
        refine (lawR7_calls ((i' : Int) - (order.length : Int) + 1) wr).mono ?_
        rintro e w3 ⟨v, rfl, hv, hb⟩
        have A3 := AF.new hb
        clear AF hb
        go_wp2_with fail
        refine (putR_on v _ c G ⟨hc0, hG⟩ w3 A3 hv).mono ?_
        rintro e w4 ⟨rfl, A4, -⟩
        clear A3 hv hc0 hG
        go_wp2_with fail
        refine (taken_on 100 (by decide) (by decide) (readyL G) (takesF (readyL G).length G) (List.take_of_length_le (by omega)) (by rw [show min 100 (readyL G).length = (readyL G).length by omega]) w4 A4).mono ?_
        rintro e w5 ⟨vl, rfl, hl, A5, -⟩
        obtain ⟨la, lc, rfl, hlc⟩ := hl.form
        generalize takesF (readyL G).length G = H at *
        obtain ⟨t, ht⟩ : ∃ t, (readyL G).length = t := ⟨_, rfl⟩
        rw [ht] at N3 ⊢
        have hlc' := hide hlc
        have htb : t ≤ 64 := by omega
        have ht' := hide ht
        clear A4 hl hlc ht
        go_wp2_with fail
        go_loopw [8, 13] (fun nx j wr => ∃ j' : Nat, j' ≤ t ∧ nx = .int .i64 (F.next + (j' : Int)) ∧ j = .int .i64 (j' : Int) ∧ wr = w5) (fun _ j _ => t - (intOf j).toNat)
        case atStart =>
          refine ⟨0, Nat.zero_le _, ?_⟩
          simp
        case round =>
          obtain ⟨j', hj, rfl, rfl, rfl⟩ := hrel
          by_cases hjt : j' < t
          · have hjI : (j' : Int) < (t : Int) := by omega
            have hjl : j' < (readyL G).length := by rw [ht'.out]; exact hjt
            obtain ⟨g, rfl, hcj⟩ := hlc'.out j' hjl
            rw [hsq.out j' hjl] at hcj
            clear hjl
            go_wp2_with fail
            exact ⟨⟨j' + 1, by omega, by go_num⟩, by simp [intOf]; omega⟩
          · obtain rfl : j' = t := by omega
            have hjn : ¬ (j' : Int) < (j' : Int) := by omega
            go_wp2_with fail
            exact ⟨⟨H, i' + 1, by omega, by rw [N3.out], by go_num, A5, N1.out, N2.out⟩, by simp [intOf]; omega⟩
      · have hltI : ¬ (i' : Int) < (order.length : Int) + (1 + (k : Int)) := by omega
        have hm : ((i' : Int) - (order.length : Int)) = 1 + (k : Int) := by omega
        rw [hm] at OF
        obtain ⟨E1, E2⟩ := ordF_end (by omega) OF hf
        rw [E1]
        go_wp2_with fail
        refine (filLen_calls p b _ _ AF.fil).mono ?_
        rintro e w' ⟨rfl, rfl⟩
        rw [E2]
        dsimp only [List.length_nil]
        go_wp2_with fail
        refine (filNext_calls p b _ _ AF.fil).mono ?_
        rintro e w' ⟨rfl, rfl⟩
        rw [E1]
        go_wp2_with fail
        go_ret
        exact ⟨rfl, AF.bel⟩

end Go.Proofs.Ytompaldhnbcikaa
