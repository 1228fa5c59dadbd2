/- FilterResets: the walk. Own work; no statement. -/
import Derived.Test.YtompaldhnbcikaaF13
set_option linter.unusedSimpArgs false
set_option linter.unusedVariables false
namespace Go.Proofs.Ytompaldhnbcikaa
open Go.RowKit Go.Shelf Go.Sort

theorem div_natF {n m : Int} (h : 0 ≤ n) (hm : 0 < m) : ∃ k : Nat, Int.tdiv n m = (k : Int) ∧ (k : Int) ≤ n := by
  have h1 := Int.tdiv_nonneg h (Int.le_of_lt hm)
  have h2 : Int.tdiv n m ≤ n := Int.tdiv_le_self m h
  exact ⟨(Int.tdiv n m).toNat, by omega, by omega⟩
theorem two_ready (n : Int) : readyL ⟨1, 20, n, [rR (n + 1), rR n]⟩ = [rR n, rR (n + 1)] ∧ takesF 2 ⟨1, 20, n, [rR (n + 1), rR n]⟩ = ⟨1, 20, n + 1 + 1, []⟩ := by
  have h1 : ¬ n + 1 = n := by omega
  have h2 : ¬ n = n + 1 := by omega
  constructor
  · simp [readyL, readyF, firstF, takeF, rR, h1, h2]
  · simp [takesF, takeF, rR, h1, h2]

set_option maxRecDepth 100000 in
set_option maxHeartbeats 8000000 in
theorem filterResets_main (vl : Value) (l : List Int) (next : Int) (w : World) (hv : IsNums .u8 w vl l) (wv : ∀ n ∈ l, (Lit.int .u8 n).wf = true) (wn : (Lit.int .u8 next).wf = true) :
    Calls Try.prog 7 #[vl, .int .u8 next] w fun e w' => e = .returned (.bool true) ∧ Go.RowKit.Below w.heap.size w w' := by
  have n0 := rng8F wn
  obtain ⟨a, cap, rfl, hcap, hcell⟩ := hv
  replace wv := hide wv
  replace hcell := hide hcell
  by_cases hlong : 40 < (l.length : Int)
  · go_enter Try.func7, Try.ntmps7
    go_wp2_with fail
    refine (filKnown_calls w).mono ?_
    rintro e w1 ⟨rfl, b1⟩
    go_wp2_with fail
    go_ret
    exact ⟨rfl, b1⟩
  go_enter Try.func7, Try.ntmps7
  go_wp2_with fail
  refine (filKnown_calls w).mono ?_
  rintro e w1 ⟨rfl, b1⟩
  go_wp2_with fail
  refine (filNew_calls 1 20 w1 (by decide)).mono ?_
  rintro e w2 ⟨rfl, hf, hb⟩
  obtain ⟨p, b, hp, A2⟩ := new_at hf hb b1
  rw [← hp]
  clear hf hb hp b1
  go_wp2_with fail
  go_loopw [7] (fun i wr => ∃ (k : Nat) (F : FilD), k ≤ l.length ∧ i = .int .i64 (k : Int) ∧ AtF w wr p b F ∧ F.site = 1 ∧ F.room = 20) (fun i _ => l.length - (intOf i).toNat)
  case atStart => exact ⟨0, _, Nat.zero_le _, rfl, A2, rfl, rfl⟩
  case round =>
    obtain ⟨k, F, hk, rfl, AF, hs1, hs20⟩ := hrel
    by_cases hkl : k < l.length
    · have hltI : (k : Int) < (l.length : Int) := by omega
      obtain ⟨vb, vo, rfl, hc⟩ := hcell.out k hkl
      have hc2 := (World.cell?_of_block (a := ⟨vb, vo + k, none⟩) (AF.bel.block vb (World.block_lt_of_cell? w _ hc))).trans hc
      have hx := rng8F (wv.out (l.getD k 0) (by rw [List.getD_eq_getElem?_getD, List.getElem?_eq_getElem hkl]; exact List.getElem_mem _))
      generalize l.getD k 0 = x at *
      obtain ⟨m, hm, hm2⟩ := rem_natF hx.1 (show (0 : Int) < 30 by decide)
      obtain ⟨q, hq, hq2⟩ := div_natF hx.1 (show (0 : Int) < 32 by decide)
      obtain ⟨t, ht, ht2⟩ := rem_natF (show (0 : Int) ≤ (q : Int) by omega) (show (0 : Int) < 4 by decide)
      go_wp2_with fail
      refine (lawR7_calls (1 + (m : Int)) wr).mono ?_
      rintro e w3 ⟨v, rfl, hv, hb⟩
      have A3 := AF.new hb
      obtain ⟨c, hc0⟩ : ∃ c, putE F (rR (1 + (m : Int))) = c := ⟨_, rfl⟩
      obtain ⟨G, hG⟩ : ∃ G, putF F (rR (1 + (m : Int))) = G := ⟨_, rfl⟩
      have hG1 : G.site = 1 ∧ G.room = 20 := by
        rw [← hG]
        unfold putF
        split
        · exact ⟨hs1, hs20⟩
        · exact ⟨hs1, hs20⟩
      clear AF hb
      go_wp2_with fail
      refine (putR_on v _ c G ⟨hc0, hG⟩ w3 A3 hv).mono ?_
      rintro e w4 ⟨rfl, A4, k4⟩
      have hc4 := (World.cell?_of_block (a := ⟨vb, vo + k, none⟩) (A4.bel.block vb (World.block_lt_of_cell? w _ hc))).trans hc
      clear A3 hv hc0 hG k4 hc2
      by_cases ht0 : t = 0
      · subst ht0
        go_wp2_with fail
        refine (taken_on 3 (by decide) (by decide) _ _ rfl rfl w4 A4).mono ?_
        rintro e w5 ⟨v5, rfl, -, A5, -⟩
        have hT : ∀ (j : Nat) (H : FilD), (takesF j H).site = H.site ∧ (takesF j H).room = H.room := fun j => by
          induction j with
          | zero => exact fun H => ⟨rfl, rfl⟩
          | succ j ih => exact fun H => ih (takeF H)
        have hT1 := hT (min 3 (readyL G).length) G
        generalize takesF (min 3 (readyL G).length) G = H at *
        clear A4 hT hc4
        go_wp2_with fail
        exact ⟨⟨k + 1, H, by omega, by go_num, A5, by rw [hT1.1, hG1.1], by rw [hT1.2, hG1.2]⟩, by simp [intOf]; omega⟩
      · have ht1 : ¬ (t : Int) = 0 := by omega
        go_wp2_with fail
        exact ⟨⟨k + 1, G, by omega, by go_num, A4, hG1⟩, by simp [intOf]; omega⟩
    · have hnl : ¬ (k : Int) < (l.length : Int) := by omega
      obtain ⟨n, hn⟩ : ∃ n, 1 + next = n := ⟨_, rfl⟩
      have hn1 : 1 ≤ n ∧ n ≤ 256 := by omega
      go_wp2_with fail
      refine (reset_on n 0 ⟨1, 20, n, []⟩ (resetF_yes F (by omega)).1 (by rw [(resetF_yes F (n := n) (by omega)).2, hs1, hs20]) wr AF).mono ?_
      rintro e w3 ⟨rfl, A3, -⟩
      clear AF
      go_wp2_with fail
      refine (filLen_calls p b _ _ A3.fil).mono ?_
      rintro e w' ⟨rfl, rfl⟩
      dsimp only [List.length_nil]
      go_wp2_with fail
      refine (filNext_calls p b _ _ A3.fil).mono ?_
      rintro e w' ⟨rfl, rfl⟩
      dsimp only
      go_wp2_with fail
      refine (lawR7_calls (n + 1) _).mono ?_
      rintro e w4 ⟨v, rfl, hv, hb⟩
      have A4 := A3.new hb
      clear A3 hb
      have hE := putE_new (F := ⟨1, 20, n, []⟩) rfl (n := n + 1) (by omega) (fun _ h => by cases h) (by dsimp only; omega) (by dsimp only; omega)
      dsimp only [List.nil_append] at hE
      go_wp2_with fail
      refine (putR_on v _ 0 _ hE w4 A4 hv).mono ?_
      rintro e w5 ⟨rfl, A5, -⟩
      clear A4 hv hE
      go_wp2_with fail
      refine (first_on none (by simp [firstF, rR]; omega) w5 A5).mono ?_
      rintro e w6 ⟨v1, rfl, ⟨vd, rfl, hr1⟩, A6, -⟩
      clear A5
      obtain ⟨va, vc, rfl⟩ := ownsRow_slice hr1
      clear hr1
      dsimp only [Option.getD_none, zeroR, List.length_nil, Option.isSome_none]
      go_wp2_with fail
      have A7 := A6.new (box_below w6 (.cells #[.int .i64 0, .int .i64 0, .slice va 0 vc, .string ⟨#[]⟩, .string ⟨#[]⟩] 35))
      generalize w6.alloc (.cells #[.int .i64 0, .int .i64 0, .slice va 0 vc, .string ⟨#[]⟩, .string ⟨#[]⟩] 35) = w7 at *
      clear A6
      refine (lawR7_calls n _).mono ?_
      rintro e w8 ⟨v, rfl, hv, hb⟩
      have A8 := A7.new hb
      clear A7 hb
      have hE := putE_new (F := ⟨1, 20, n, [rR (n + 1)]⟩) rfl (n := n) (by omega) (fun x hx => by rw [List.mem_singleton.1 hx]; show n + 1 ≠ n; omega) (by dsimp only; omega) (by dsimp only; omega)
      dsimp only [List.cons_append, List.nil_append] at hE
      go_wp2_with fail
      refine (putR_on v _ 0 _ hE w8 A8 hv).mono ?_
      rintro e w9 ⟨rfl, A9, -⟩
      clear A8 hv hE
      go_wp2_with fail
      refine (taken_on 9 (by decide) (by decide) [rR n, rR (n + 1)] ⟨1, 20, n + 1 + 1, []⟩ (by rw [(two_ready n).1]; rfl) (by rw [(two_ready n).1]; exact (two_ready n).2) w9 A9).mono ?_
      rintro e w10 ⟨vl, rfl, hl, A10, -⟩
      clear A9
      obtain ⟨la, lc, rfl, hlc⟩ := hl.form
      obtain ⟨lg, rfl, hc1⟩ := hlc 1 (by simp)
      obtain ⟨lg', e2, hc0⟩ := hlc 0 (by simp)
      have hg : lg' = lg := by simpa using e2.symm
      subst hg
      have hc1' : w10.cell? ⟨lg', 6, none⟩ = some (.int .i64 (n + 1)) := hc1
      have hc0' : w10.cell? ⟨lg', 1, none⟩ = some (.int .i64 n) := hc0
      clear hlc e2 hc1 hc0 hl
      dsimp only [List.length_cons, List.length_nil]
      go_wp2_with fail
      refine (reset_on 0 1 _ (resetF_no ⟨1, 20, n + 1 + 1, []⟩ (by omega)).1 (resetF_no ⟨1, 20, n + 1 + 1, []⟩ (by omega)).2 w10 A10).mono ?_
      rintro e w11 ⟨rfl, A11, -⟩
      clear A10
      go_wp2_with fail
      refine (filNext_calls p b _ _ A11.fil).mono ?_
      rintro e w' ⟨rfl, rfl⟩
      dsimp only
      have hn2 : n + 1 + 1 = n + 2 := by omega
      rw [hn2] at A11 ⊢
      go_wp2_with fail
      refine (reset_on 1048578 1 _ (resetF_no ⟨1, 20, n + 2, []⟩ (by omega)).1 (resetF_no ⟨1, 20, n + 2, []⟩ (by omega)).2 _ A11).mono ?_
      rintro e w12 ⟨rfl, A12, -⟩
      clear A11
      go_wp2_with fail
      refine (reset_on 1048577 0 _ (resetF_yes ⟨1, 20, n + 2, []⟩ (by omega)).1 (resetF_yes ⟨1, 20, n + 2, []⟩ (by omega)).2 _ A12).mono ?_
      rintro e w13 ⟨rfl, A13, -⟩
      clear A12
      go_wp2_with fail
      go_ret
      exact ⟨rfl, A13.bel⟩

end Go.Proofs.Ytompaldhnbcikaa
