/- BatchPlays: the walk. Own work; no statement. -/
import Derived.Test.YtpkjkhpnhcbciaaB9
import Derived.Test.YtpkjkhpnhcbciaaFrameB
import Derived.Test.YtpkjkhpnhcbciaaHeldT
set_option linter.unusedSimpArgs false
set_option linter.unusedVariables false
namespace Go.Proofs.Ytpkjkhpnhcbciaa
open Go.RowKit Go.Shelf Go.Sort

theorem IsActsB.at_ {w w' : World} {a : Option Addr} {n cap : Nat} {l : List ActB} (h : IsActsB w (.slice a n cap) l) (hb : RowKit.Below w.heap.size w w') (k : Nat) (hk : k < l.length) : ∃ b o, a = some ⟨b, o, none⟩ ∧ n = l.length ∧ w'.cell? ⟨b, o + k * 2, none⟩ = some (.int .i64 (l[k]).op) ∧ w'.cell? ⟨b, o + k * 2 + 1, none⟩ = some (.int .i64 (l[k]).n) := by
  obtain ⟨a', cap', e, hc⟩ := h
  simp only [Value.slice.injEq] at e
  obtain ⟨rfl, rfl, rfl⟩ := e
  obtain ⟨b, o, rfl, h0, h1⟩ := hc k hk
  have hlt : b < w.heap.size := World.block_lt_of_cell? w _ h0
  exact ⟨b, o, rfl, rfl, (hb.cell (p := ⟨b, _, none⟩) hlt).trans h0, (hb.cell (p := ⟨b, _, none⟩) hlt).trans h1⟩

theorem run_min3B {P : Program} (w : World) (ts : Array TypeId) (t : TypeId) (a b c m : Int) (h : m = min (min a b) c) : (Builtin.min_ ts t #[.int .i64 a, .int .i64 b, .int .i64 c]).run P w = .ok (.int .i64 m) w := by
  have e : ∀ x y : Int, (if y < x then y else x) = min x y := fun x y => by split <;> omega
  subst h
  simp [Builtin.min_, Builtin.min2, e]

set_option maxRecDepth 100000 in
set_option maxHeartbeats 8000000 in
theorem batchPlays_main (size room : Int) (va : Value) (l : List ActB) (w : World) (ws : (Lit.int .i64 size).wf = true) (wr' : (Lit.int .i64 room).wf = true) (hv : IsActsB w va l) (hwl : ∀ x ∈ l, ActWfB x) :
    Calls Try.prog 3 #[.int .i64 size, .int .i64 room, va] w fun e w' => e = .returned (.bool true) ∧ RowKit.Below w.heap.size w w' := by
  obtain ⟨i0, hi0, hz0, hz1, hz2⟩ := info_parts Try.info3
  have Hv := hide hv
  have Hwl := hide hwl
  obtain ⟨a, cap, rfl, -⟩ := hv
  clear hwl ws wr'
  go_enter Try.func3, Try.ntmps3
  go_wp2_with fail
  refine (batKnown_calls w).mono ?_
  rintro e w1 ⟨rfl, b1⟩
  by_cases hlong : 200 < (l.length : Int)
  · go_wp2_with fail
    go_ret
    exact ⟨rfl, b1⟩
  by_cases hsr : 1 ≤ size ∧ size ≤ room ∧ room ≤ 64
  case neg =>
    go_wp2_with fail
    refine (batNew_none size room w1 hsr).mono ?_
    rintro e w3 ⟨rfl, rfl⟩
    go_wp2_with fail
    all_goals
      go_ret
      exact ⟨rfl, b1⟩
  go_wp2_with fail
  refine (batNew_calls size room w1 hsr).mono ?_
  rintro e w2 ⟨rfl, hf, hb⟩
  have Bo2 : BothB w w2 w1.heap.size none (.slice none 0 0) ⟨size, room, []⟩ := ⟨⟨hf.ok, b1.size, let ⟨u, q1, q2, q3⟩ := hf.val; ⟨u, q1, q2, ownsRow_low q3 b1.size⟩⟩, .nil _ _ _, fun k hk => (by cases hk), b1.trans (hb.mono b1.size)⟩
  obtain ⟨p, hp⟩ : ∃ p, w1.heap.size = p := ⟨_, rfl⟩
  rw [hp] at Bo2 ⊢
  clear hf hb hp b1
  obtain ⟨hs1, hs2, hs3⟩ := hsr
  go_wp2_with fail
  go_loopw [7, 9, 10] (fun pf vm i wr => ∃ (k p : Nat) (g : Option Nat) (D : BatD), pf = .pointer (some ⟨p, 0, none⟩) ∧ i = .int .i64 (k : Int) ∧ k ≤ l.length ∧ D.size = size ∧ D.room = room ∧ BothB w wr p g vm D) (fun _ _ i _ => l.length - (intOf i).toNat)
  case atStart => exact ⟨0, p, none, _, rfl, rfl, Nat.zero_le _, rfl, rfl, Bo2⟩
  case round =>
    clear Bo2
    obtain ⟨k, p, g, D, rfl, rfl, hk, hDs, hDr, BO⟩ := hrel
    obtain ⟨ma, mc, rfl⟩ := BO.form
    by_cases hlt : k < l.length
    case neg =>
      have hltI : ¬ (k : Int) < (l.length : Int) := by omega
      go_wp2_with fail
      go_ret
      exact ⟨rfl, BO.bel⟩
    have hltI : (k : Int) < (l.length : Int) := by omega
    obtain ⟨vb, vo, rfl, -, c0, c1⟩ := Hv.out.at_ BO.bel k hlt
    have hwf := Hwl.out l[k] (List.getElem_mem hlt)
    generalize l[k] = x at *
    obtain ⟨op, n⟩ := x
    dsimp only at *
    have hn := rng64B hwf.n
    clear hwf
    by_cases h1 : op = 1
    · subst h1
      by_cases hf : D.room ≤ (D.L.length : Int)
      · have hfI : room ≤ (D.L.length : Int) := by rw [← hDr]; exact hf
        go_wp2_with fail
        refine (both_full n hf wr BO).mono ?_
        rintro e w3 ⟨rfl, nd3, rfl⟩
        replace BO := BO.new (drewsB wr nd3)
        generalize wr.drewN nd3 = W at *
        go_wp2_with fail
        obtain ⟨E, rfl⟩ : ∃ E, E = D := ⟨_, rfl⟩
        have hEs := hDs
        have hEr := hDr
        obtain ⟨EL, hEL⟩ : ∃ EL, E.L = EL := ⟨_, rfl⟩
        rcases EL with _ | ⟨y, ys⟩
        · refine (batFirst_none w.heap.size p g E hEL W BO.bat).mono ?_
          rintro e w4 ⟨rfl, nd, rfl⟩
          have B4 := BO.new (drewsB W nd)
          generalize (W).drewN nd = w4 at *
          have hlen : E.L.length = 0 := by rw [hEL]; rfl
          have hfull : decide (E.size ≤ (E.L.length : Int)) = false := by rw [hlen, hEs]; simp; omega
          rw [hlen] at B4 ⊢
          replace hlen := hide hlen
          clear BO hEL
          go_wp2_with fail
          refine (batLen_calls w.heap.size p g E w4 B4.bat).mono ?_
          rintro e w5 ⟨rfl, rfl⟩
          rw [hlen.out]
          go_wp2_with fail
          refine (batFull_calls w.heap.size p g E false hfull w5 B4.bat).mono ?_
          rintro e w6 ⟨rfl, n6, rfl⟩
          have B6 := B4.new (drewsB w5 n6)
          generalize w5.drewN n6 = w6 at *
          go_wp2_with fail
          exact ⟨⟨k + 1, p, g, E, rfl, by go_num, by omega, hEs, hEr, B6⟩, by simp [intOf]; omega⟩
        · have hh := BO.head y (by rw [hEL]; rfl)
          obtain ⟨hb, ho, hc, he, hcell⟩ := hh
          simp only [Value.slice.injEq] at he
          obtain ⟨rfl, -, rfl⟩ := he
          refine (batFirst_some w.heap.size p g E y ys hEL W BO.bat).mono ?_
          rintro e w4 ⟨rfl, nd, rfl⟩
          have B4 := BO.new (drewsB W nd)
          have hcell4 : ((W).drewN nd).cell? ⟨hb, ho, none⟩ = some (.int .i64 y) := hcell
          generalize (W).drewN nd = w4 at *
          have hlow : 0 < E.L.length := by rw [hEL]; simp
          have hlowI : (0 : Int) < (E.L.length : Int) := by omega
          have hhi := B4.bat.len
          have hfull : decide (E.size ≤ (E.L.length : Int)) = decide (size ≤ (E.L.length : Int)) := by rw [hEs]
          clear BO hEL hcell
          go_wp2_with fail
          refine (batLen_calls w.heap.size p g E w4 B4.bat).mono ?_
          rintro e w5 ⟨rfl, rfl⟩
          go_wp2_with fail
          refine (batFull_calls w.heap.size p g E _ hfull w5 B4.bat).mono ?_
          rintro e w6 ⟨rfl, n6, rfl⟩
          have B6 := B4.new (drewsB w5 n6)
          have hcell6 : (w5.drewN n6).cell? ⟨hb, ho, none⟩ = some (.int .i64 y) := hcell4
          generalize w5.drewN n6 = w6 at *
          clear B4 hcell4
          go_wp2_with fail
          exact ⟨⟨k + 1, p, g, E, rfl, by go_num, by omega, hEs, hEr, B6⟩, by simp [intOf]; omega⟩
      · have hfI : (D.L.length : Int) < room := by omega
        have hl64 := BO.bat.len
        go_wp2_with fail
        refine (both_add n (by omega) wr BO).mono ?_
        rintro e w3 ⟨rfl, g3, A3⟩
        have A3' := hide A3
        have hw3 := A3.bel.size
        have hp3 := A3.bat.lt
        clear BO A3
        go_wp2_with (at_builtin; refine wpList_append_win _ rfl (.tmp 87) _ 28 rfl w.heap.size 3 i0 (.int .i64 0) 8 Try.underlying28 hi0 hz0 hz1 hz2 rfl _ _ _ rfl (A3'.out.win.new ((RowKit.Below.refl _ w3).alloc (Nat.le_refl _) _)) _ _ _ (.int .i64 n) rfl (Boxed.new w3 _ _).cell rfl (by unfold maxLen; omega) (by omega) (Nat.le_trans hw3 (by simp)) ?_; intro v1 w1 hw1 hg1 hat1; have BO := A3'.out.more hw1 hg1 hat1; obtain ⟨E, hE⟩ : ∃ E, (⟨D.size, D.room, D.L ++ [n]⟩ : BatD) = E := ⟨_, rfl⟩; rw [hE] at BO; have hEs : E.size = size := hE ▸ hDs; have hEr : E.room = room := hE ▸ hDr; obtain ⟨ea, ec, rfl⟩ := BO.form; clear hw1 hg1 hat1 hE)
        obtain ⟨EL, hEL⟩ : ∃ EL, E.L = EL := ⟨_, rfl⟩
        rcases EL with _ | ⟨y, ys⟩
        · refine (batFirst_none w.heap.size p g3 E hEL w1 BO.bat).mono ?_
          rintro e w4 ⟨rfl, nd, rfl⟩
          have B4 := BO.new (drewsB w1 nd)
          generalize (w1).drewN nd = w4 at *
          have hlen : E.L.length = 0 := by rw [hEL]; rfl
          have hfull : decide (E.size ≤ (E.L.length : Int)) = false := by rw [hlen, hEs]; simp; omega
          rw [hlen] at B4 ⊢
          replace hlen := hide hlen
          clear BO hEL
          go_wp2_with fail
          refine (batLen_calls w.heap.size p g3 E w4 B4.bat).mono ?_
          rintro e w5 ⟨rfl, rfl⟩
          rw [hlen.out]
          go_wp2_with fail
          refine (batFull_calls w.heap.size p g3 E false hfull w5 B4.bat).mono ?_
          rintro e w6 ⟨rfl, n6, rfl⟩
          have B6 := B4.new (drewsB w5 n6)
          generalize w5.drewN n6 = w6 at *
          go_wp2_with fail
          exact ⟨⟨k + 1, p, g3, E, rfl, by go_num, by omega, hEs, hEr, B6⟩, by simp [intOf]; omega⟩
        · have hh := BO.head y (by rw [hEL]; rfl)
          obtain ⟨hb, ho, hc, he, hcell⟩ := hh
          simp only [Value.slice.injEq] at he
          obtain ⟨rfl, -, rfl⟩ := he
          refine (batFirst_some w.heap.size p g3 E y ys hEL w1 BO.bat).mono ?_
          rintro e w4 ⟨rfl, nd, rfl⟩
          have B4 := BO.new (drewsB w1 nd)
          have hcell4 : ((w1).drewN nd).cell? ⟨hb, ho, none⟩ = some (.int .i64 y) := hcell
          generalize (w1).drewN nd = w4 at *
          have hlow : 0 < E.L.length := by rw [hEL]; simp
          have hlowI : (0 : Int) < (E.L.length : Int) := by omega
          have hhi := B4.bat.len
          have hfull : decide (E.size ≤ (E.L.length : Int)) = decide (size ≤ (E.L.length : Int)) := by rw [hEs]
          clear BO hEL hcell
          go_wp2_with fail
          refine (batLen_calls w.heap.size p g3 E w4 B4.bat).mono ?_
          rintro e w5 ⟨rfl, rfl⟩
          go_wp2_with fail
          refine (batFull_calls w.heap.size p g3 E _ hfull w5 B4.bat).mono ?_
          rintro e w6 ⟨rfl, n6, rfl⟩
          have B6 := B4.new (drewsB w5 n6)
          have hcell6 : (w5.drewN n6).cell? ⟨hb, ho, none⟩ = some (.int .i64 y) := hcell4
          generalize w5.drewN n6 = w6 at *
          clear B4 hcell4
          go_wp2_with fail
          exact ⟨⟨k + 1, p, g3, E, rfl, by go_num, by omega, hEs, hEr, B6⟩, by simp [intOf]; omega⟩
    by_cases h2 : op = 2
    · subst h2
      obtain ⟨K, hK⟩ : ∃ K : Nat, (K : Int) = min (max n 0) (min D.size (D.L.length : Int)) := ⟨(min (max n 0) (min D.size (D.L.length : Int))).toNat, by have := BO.bat.ok.low; omega⟩
      have hKn : K ≤ D.L.length := by omega
      have hl64 := BO.bat.len
      have hmin : ∀ w', (Builtin.min_ #[3, 3, 3] 3 #[.int .i64 (max n 0), .int .i64 size, .int .i64 (D.L.length : Int)]).run Try.prog w' = .ok (.int .i64 (K : Int)) w' := fun w' => run_min3B w' _ _ _ _ _ _ (by rw [hK, hDs]; omega)
      have hap := hide BO.apart
      go_wp2_with fail
      refine (both_taken n hn K hK wr BO).mono ?_
      rintro e w3 ⟨x, rfl, ⟨xa, xc, rfl, hx⟩, hwin, hbat, hbel⟩
      have Hx := hide hx
      have Hwin := hide hwin
      have Hbat := hide hbat
      have Hbel := hide hbel
      clear hx hwin hbat hbel BO hK
      go_wp2_with fail
      go_loopw [16] (fun j wr' => ∃ j' : Nat, j' ≤ K ∧ j = .int .i64 (j' : Int) ∧ ∃ nd, wr' = w3.drewN nd) (fun j _ => K - (intOf j).toNat)
      case atStart => exact ⟨0, Nat.zero_le _, rfl, 0, rfl⟩
      case round =>
        obtain ⟨j', hj, rfl, nd, rfl⟩ := hrel
        by_cases hjK : j' < K
        · have hjI : (j' : Int) < (K : Int) := by omega
          have hjD : (j' : Int) < (D.L.length : Int) := by omega
          obtain ⟨xb, rfl, y, hy, hyL⟩ := Hx.out j' hjK
          obtain ⟨gb, go, gc, he, -, hc⟩ := Hwin.out.cellAt j' (by omega)
          simp only [Value.slice.injEq] at he
          obtain ⟨rfl, -, rfl⟩ := he
          have hc' : w3.cell? ⟨gb, go + j', none⟩ = some (.int .i64 y) := by rw [hc, List.getElem?_map, hyL]; rfl
          clear hc hyL
          go_wp2_with fail
          go_quiet (fail)
          go_wp2_with fail
          exact ⟨⟨j' + 1, by omega, by go_num, nd + nq, rfl⟩, by simp [intOf]; omega⟩
        · obtain rfl : j' = K := by omega
          have hjI : ¬ (j' : Int) < (j' : Int) := by omega
          have BO := BothB.cut Hwin.out Hbat.out hap.out Hbel.out hKn
          replace BO := BO.new (drewsB w3 nd)
          have hEs : (takesB j' D).size = size := hDs
          have hEr : (takesB j' D).room = room := hDr
          have hEl : D.L.length - j' = (takesB j' D).L.length := by simp [takesB]
          clear hmin Hx Hbat Hwin Hbel hap
          by_cases hmk : mc = j'
          · rw [dropV_all _ _ _ _ hmk, hEl, show mc - j' = 0 by omega] at BO
            go_wp2_with fail
            (try rw [hEl])
            clear hEl hKn hDs hDr
            generalize (takesB j' D) = E at *
            obtain ⟨W, hW⟩ : ∃ W, w3.drewN nd = W := ⟨_, rfl⟩
            rw [hW] at BO ⊢
            clear hW
            obtain ⟨EL, hEL⟩ : ∃ EL, E.L = EL := ⟨_, rfl⟩
            rcases EL with _ | ⟨y, ys⟩
            · refine (batFirst_none w.heap.size p g E hEL W BO.bat).mono ?_
              rintro e w4 ⟨rfl, nd, rfl⟩
              have B4 := BO.new (drewsB W nd)
              generalize (W).drewN nd = w4 at *
              have hlen : E.L.length = 0 := by rw [hEL]; rfl
              have hfull : decide (E.size ≤ (E.L.length : Int)) = false := by rw [hlen, hEs]; simp; omega
              rw [hlen] at B4 ⊢
              replace hlen := hide hlen
              clear BO hEL
              go_wp2_with fail
              refine (batLen_calls w.heap.size p g E w4 B4.bat).mono ?_
              rintro e w5 ⟨rfl, rfl⟩
              rw [hlen.out]
              go_wp2_with fail
              refine (batFull_calls w.heap.size p g E false hfull w5 B4.bat).mono ?_
              rintro e w6 ⟨rfl, n6, rfl⟩
              have B6 := B4.new (drewsB w5 n6)
              generalize w5.drewN n6 = w6 at *
              go_wp2_with fail
              exact ⟨⟨k + 1, p, g, E, rfl, by go_num, by omega, hEs, hEr, B6⟩, by simp [intOf]; omega⟩
            · have hh := BO.head y (by rw [hEL]; rfl)
              obtain ⟨hb, ho, hc, he, hcell⟩ := hh
              simp only [Value.slice.injEq] at he
              obtain ⟨rfl, -, rfl⟩ := he
              refine (batFirst_some w.heap.size p g E y ys hEL W BO.bat).mono ?_
              rintro e w4 ⟨rfl, nd, rfl⟩
              have B4 := BO.new (drewsB W nd)
              have hcell4 : ((W).drewN nd).cell? ⟨hb, ho, none⟩ = some (.int .i64 y) := hcell
              generalize (W).drewN nd = w4 at *
              have hlow : 0 < E.L.length := by rw [hEL]; simp
              have hlowI : (0 : Int) < (E.L.length : Int) := by omega
              have hhi := B4.bat.len
              have hfull : decide (E.size ≤ (E.L.length : Int)) = decide (size ≤ (E.L.length : Int)) := by rw [hEs]
              clear BO hEL hcell
              go_wp2_with fail
              refine (batLen_calls w.heap.size p g E w4 B4.bat).mono ?_
              rintro e w5 ⟨rfl, rfl⟩
              go_wp2_with fail
              refine (batFull_calls w.heap.size p g E _ hfull w5 B4.bat).mono ?_
              rintro e w6 ⟨rfl, n6, rfl⟩
              have B6 := B4.new (drewsB w5 n6)
              have hcell6 : (w5.drewN n6).cell? ⟨hb, ho, none⟩ = some (.int .i64 y) := hcell4
              generalize w5.drewN n6 = w6 at *
              clear B4 hcell4
              go_wp2_with fail
              exact ⟨⟨k + 1, p, g, E, rfl, by go_num, by omega, hEs, hEr, B6⟩, by simp [intOf]; omega⟩
          · rw [dropV_some _ _ _ _ hmk, hEl] at BO
            go_wp2_with fail
            (try rw [hEl])
            clear hEl hKn hDs hDr
            generalize (takesB j' D) = E at *
            obtain ⟨W, hW⟩ : ∃ W, w3.drewN nd = W := ⟨_, rfl⟩
            rw [hW] at BO ⊢
            clear hW
            generalize (Option.map (fun x => Addr.add x j') ma) = ma2 at *
            generalize mc - j' = mc2 at *
            obtain ⟨EL, hEL⟩ : ∃ EL, E.L = EL := ⟨_, rfl⟩
            rcases EL with _ | ⟨y, ys⟩
            · refine (batFirst_none w.heap.size p g E hEL W BO.bat).mono ?_
              rintro e w4 ⟨rfl, nd, rfl⟩
              have B4 := BO.new (drewsB W nd)
              generalize (W).drewN nd = w4 at *
              have hlen : E.L.length = 0 := by rw [hEL]; rfl
              have hfull : decide (E.size ≤ (E.L.length : Int)) = false := by rw [hlen, hEs]; simp; omega
              rw [hlen] at B4 ⊢
              replace hlen := hide hlen
              clear BO hEL
              go_wp2_with fail
              refine (batLen_calls w.heap.size p g E w4 B4.bat).mono ?_
              rintro e w5 ⟨rfl, rfl⟩
              rw [hlen.out]
              go_wp2_with fail
              refine (batFull_calls w.heap.size p g E false hfull w5 B4.bat).mono ?_
              rintro e w6 ⟨rfl, n6, rfl⟩
              have B6 := B4.new (drewsB w5 n6)
              generalize w5.drewN n6 = w6 at *
              go_wp2_with fail
              exact ⟨⟨k + 1, p, g, E, rfl, by go_num, by omega, hEs, hEr, B6⟩, by simp [intOf]; omega⟩
            · have hh := BO.head y (by rw [hEL]; rfl)
              obtain ⟨hb, ho, hc, he, hcell⟩ := hh
              simp only [Value.slice.injEq] at he
              obtain ⟨rfl, -, rfl⟩ := he
              refine (batFirst_some w.heap.size p g E y ys hEL W BO.bat).mono ?_
              rintro e w4 ⟨rfl, nd, rfl⟩
              have B4 := BO.new (drewsB W nd)
              have hcell4 : ((W).drewN nd).cell? ⟨hb, ho, none⟩ = some (.int .i64 y) := hcell
              generalize (W).drewN nd = w4 at *
              have hlow : 0 < E.L.length := by rw [hEL]; simp
              have hlowI : (0 : Int) < (E.L.length : Int) := by omega
              have hhi := B4.bat.len
              have hfull : decide (E.size ≤ (E.L.length : Int)) = decide (size ≤ (E.L.length : Int)) := by rw [hEs]
              clear BO hEL hcell
              go_wp2_with fail
              refine (batLen_calls w.heap.size p g E w4 B4.bat).mono ?_
              rintro e w5 ⟨rfl, rfl⟩
              go_wp2_with fail
              refine (batFull_calls w.heap.size p g E _ hfull w5 B4.bat).mono ?_
              rintro e w6 ⟨rfl, n6, rfl⟩
              have B6 := B4.new (drewsB w5 n6)
              have hcell6 : (w5.drewN n6).cell? ⟨hb, ho, none⟩ = some (.int .i64 y) := hcell4
              generalize w5.drewN n6 = w6 at *
              clear B4 hcell4
              go_wp2_with fail
              exact ⟨⟨k + 1, p, g, E, rfl, by go_num, by omega, hEs, hEr, B6⟩, by simp [intOf]; omega⟩
    by_cases h3 : op = 3
    · subst h3
      go_wp2_with fail
      refine (both_clear wr BO).mono ?_
      rintro e W ⟨rfl, B3⟩
      clear BO
      go_wp2_with fail
      have hEs : (⟨D.size, D.room, []⟩ : BatD).size = size := hDs
      have hEr : (⟨D.size, D.room, []⟩ : BatD).room = room := hDr
      have hEl : (⟨D.size, D.room, []⟩ : BatD).L.length = 0 := rfl
      have BO := B3
      have hEn : (⟨D.size, D.room, []⟩ : BatD).L = [] := rfl
      clear B3
      generalize (⟨D.size, D.room, []⟩ : BatD) = E at *
      have hfull : decide (E.size ≤ (E.L.length : Int)) = false := by rw [hEl, hEs]; simp; omega
      replace hEl := hide hEl
      refine (batFirst_none w.heap.size p none E hEn W BO.bat).mono ?_
      rintro e w4 ⟨rfl, nd, rfl⟩
      have B4 := BO.new (drewsB W nd)
      generalize W.drewN nd = w4 at *
      clear BO hEn
      go_wp2_with fail
      refine (batLen_calls w.heap.size p none E w4 B4.bat).mono ?_
      rintro e w5 ⟨rfl, rfl⟩
      rw [hEl.out]
      go_wp2_with fail
      refine (batFull_calls w.heap.size p none E false hfull w5 B4.bat).mono ?_
      rintro e w6 ⟨rfl, n6, rfl⟩
      have B6 := B4.new (drewsB w5 n6)
      generalize w5.drewN n6 = w6 at *
      go_wp2_with fail
      exact ⟨⟨k + 1, p, none, E, rfl, by go_num, by omega, hEs, hEr, B6⟩, by simp [intOf]; omega⟩
    by_cases h4 : op = 4
    · subst h4
      go_wp2_with fail
      refine (both_twin wr BO).mono ?_
      rintro e w3 ⟨q, rfl, hb3, g', B3, hqp⟩
      clear BO
      go_wp2_with fail
      refine (both_off w3 B3 hb3 hqp).mono ?_
      rintro e W ⟨rfl, BO⟩
      clear B3 hb3
      go_wp2_with fail
      obtain ⟨E, rfl⟩ : ∃ E, E = D := ⟨_, rfl⟩
      have hEs := hDs
      have hEr := hDr
      clear hqp
      obtain ⟨EL, hEL⟩ : ∃ EL, E.L = EL := ⟨_, rfl⟩
      rcases EL with _ | ⟨y, ys⟩
      · refine (batFirst_none w.heap.size q g' E hEL W BO.bat).mono ?_
        rintro e w4 ⟨rfl, nd, rfl⟩
        have B4 := BO.new (drewsB W nd)
        generalize (W).drewN nd = w4 at *
        have hlen : E.L.length = 0 := by rw [hEL]; rfl
        have hfull : decide (E.size ≤ (E.L.length : Int)) = false := by rw [hlen, hEs]; simp; omega
        rw [hlen] at B4 ⊢
        replace hlen := hide hlen
        clear BO hEL
        go_wp2_with fail
        refine (batLen_calls w.heap.size q g' E w4 B4.bat).mono ?_
        rintro e w5 ⟨rfl, rfl⟩
        rw [hlen.out]
        go_wp2_with fail
        refine (batFull_calls w.heap.size q g' E false hfull w5 B4.bat).mono ?_
        rintro e w6 ⟨rfl, n6, rfl⟩
        have B6 := B4.new (drewsB w5 n6)
        generalize w5.drewN n6 = w6 at *
        go_wp2_with fail
        exact ⟨⟨k + 1, q, g', E, rfl, by go_num, by omega, hEs, hEr, B6⟩, by simp [intOf]; omega⟩
      · have hh := BO.head y (by rw [hEL]; rfl)
        obtain ⟨hb, ho, hc, he, hcell⟩ := hh
        simp only [Value.slice.injEq] at he
        obtain ⟨rfl, -, rfl⟩ := he
        refine (batFirst_some w.heap.size q g' E y ys hEL W BO.bat).mono ?_
        rintro e w4 ⟨rfl, nd, rfl⟩
        have B4 := BO.new (drewsB W nd)
        have hcell4 : ((W).drewN nd).cell? ⟨hb, ho, none⟩ = some (.int .i64 y) := hcell
        generalize (W).drewN nd = w4 at *
        have hlow : 0 < E.L.length := by rw [hEL]; simp
        have hlowI : (0 : Int) < (E.L.length : Int) := by omega
        have hhi := B4.bat.len
        have hfull : decide (E.size ≤ (E.L.length : Int)) = decide (size ≤ (E.L.length : Int)) := by rw [hEs]
        clear BO hEL hcell
        go_wp2_with fail
        refine (batLen_calls w.heap.size q g' E w4 B4.bat).mono ?_
        rintro e w5 ⟨rfl, rfl⟩
        go_wp2_with fail
        refine (batFull_calls w.heap.size q g' E _ hfull w5 B4.bat).mono ?_
        rintro e w6 ⟨rfl, n6, rfl⟩
        have B6 := B4.new (drewsB w5 n6)
        have hcell6 : (w5.drewN n6).cell? ⟨hb, ho, none⟩ = some (.int .i64 y) := hcell4
        generalize w5.drewN n6 = w6 at *
        clear B4 hcell4
        go_wp2_with fail
        exact ⟨⟨k + 1, q, g', E, rfl, by go_num, by omega, hEs, hEr, B6⟩, by simp [intOf]; omega⟩
    go_wp2_with fail
    obtain ⟨E, rfl⟩ : ∃ E, E = D := ⟨_, rfl⟩
    have hEs := hDs
    have hEr := hDr
    obtain ⟨EL, hEL⟩ : ∃ EL, E.L = EL := ⟨_, rfl⟩
    rcases EL with _ | ⟨y, ys⟩
    · refine (batFirst_none w.heap.size p g E hEL wr BO.bat).mono ?_
      rintro e w4 ⟨rfl, nd, rfl⟩
      have B4 := BO.new (drewsB wr nd)
      generalize (wr).drewN nd = w4 at *
      have hlen : E.L.length = 0 := by rw [hEL]; rfl
      have hfull : decide (E.size ≤ (E.L.length : Int)) = false := by rw [hlen, hEs]; simp; omega
      rw [hlen] at B4 ⊢
      replace hlen := hide hlen
      clear BO hEL
      go_wp2_with fail
      refine (batLen_calls w.heap.size p g E w4 B4.bat).mono ?_
      rintro e w5 ⟨rfl, rfl⟩
      rw [hlen.out]
      go_wp2_with fail
      refine (batFull_calls w.heap.size p g E false hfull w5 B4.bat).mono ?_
      rintro e w6 ⟨rfl, n6, rfl⟩
      have B6 := B4.new (drewsB w5 n6)
      generalize w5.drewN n6 = w6 at *
      go_wp2_with fail
      exact ⟨⟨k + 1, p, g, E, rfl, by go_num, by omega, hEs, hEr, B6⟩, by simp [intOf]; omega⟩
    · have hh := BO.head y (by rw [hEL]; rfl)
      obtain ⟨hb, ho, hc, he, hcell⟩ := hh
      simp only [Value.slice.injEq] at he
      obtain ⟨rfl, -, rfl⟩ := he
      refine (batFirst_some w.heap.size p g E y ys hEL wr BO.bat).mono ?_
      rintro e w4 ⟨rfl, nd, rfl⟩
      have B4 := BO.new (drewsB wr nd)
      have hcell4 : ((wr).drewN nd).cell? ⟨hb, ho, none⟩ = some (.int .i64 y) := hcell
      generalize (wr).drewN nd = w4 at *
      have hlow : 0 < E.L.length := by rw [hEL]; simp
      have hlowI : (0 : Int) < (E.L.length : Int) := by omega
      have hhi := B4.bat.len
      have hfull : decide (E.size ≤ (E.L.length : Int)) = decide (size ≤ (E.L.length : Int)) := by rw [hEs]
      clear BO hEL hcell
      go_wp2_with fail
      refine (batLen_calls w.heap.size p g E w4 B4.bat).mono ?_
      rintro e w5 ⟨rfl, rfl⟩
      go_wp2_with fail
      refine (batFull_calls w.heap.size p g E _ hfull w5 B4.bat).mono ?_
      rintro e w6 ⟨rfl, n6, rfl⟩
      have B6 := B4.new (drewsB w5 n6)
      have hcell6 : (w5.drewN n6).cell? ⟨hb, ho, none⟩ = some (.int .i64 y) := hcell4
      generalize w5.drewN n6 = w6 at *
      clear B4 hcell4
      go_wp2_with fail
      exact ⟨⟨k + 1, p, g, E, rfl, by go_num, by omega, hEs, hEr, B6⟩, by simp [intOf]; omega⟩

end Go.Proofs.Ytpkjkhpnhcbciaa
