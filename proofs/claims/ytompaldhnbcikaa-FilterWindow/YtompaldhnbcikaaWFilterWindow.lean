/- FilterWindow: the walk. Own work; no statement. -/
import Derived.Test.YtompaldhnbcikaaF13
set_option linter.unusedSimpArgs false
set_option linter.unusedVariables false
namespace Go.Proofs.Ytompaldhnbcikaa
open Go.RowKit Go.Shelf Go.Sort

set_option maxRecDepth 100000 in
set_option maxHeartbeats 8000000 in
theorem filterWindow_main (next : Int) (room : Int) (seq : Int) (w : World) (wn : (Lit.int .u16 next).wf = true) (wr : (Lit.int .u8 room).wf = true) (ws : (Lit.int .u16 seq).wf = true) :
    Calls Try.prog 5 #[.int .u16 next, .int .u8 room, .int .u16 seq] w fun e w' => e = .returned (.bool true) ∧ Go.RowKit.Below w.heap.size w w' := by
  have n0 := rng16F wn
  have r0 := rng8F wr
  have s0 := rng16F ws
  obtain ⟨n, hn, hn2⟩ := rem_natF n0.1 (show (0 : Int) < 1000 by decide)
  obtain ⟨k, hk, hk2⟩ := rem_natF r0.1 (show (0 : Int) < 64 by decide)
  obtain ⟨s, hs, hs2⟩ := rem_natF s0.1 (show (0 : Int) < 1200 by decide)
  clear wn wr ws
  go_enter Try.func5, Try.ntmps5
  go_wp2_with fail
  refine (filKnown_calls w).mono ?_
  rintro e w1 ⟨rfl, b1⟩
  go_wp2_with fail
  refine (filNew_calls 1 (1 + (k : Int)) w1 (by omega)).mono ?_
  rintro e w2 ⟨rfl, hf, hb⟩
  obtain ⟨p, b, hp, A2⟩ := new_at hf hb b1
  rw [← hp]
  clear hf hb hp b1
  go_wp2_with fail
  refine (reset_on (1 + (n : Int)) 0 ⟨1, 1 + (k : Int), 1 + (n : Int), []⟩ (resetF_yes ⟨1, 1 + (k : Int), 1, []⟩ (by omega)).1 (resetF_yes ⟨1, 1 + (k : Int), 1, []⟩ (by omega)).2 w2 A2).mono ?_
  rintro e w3 ⟨rfl, A3, -⟩
  clear A2
  go_wp2_with fail
  refine (lawR7_calls (1 + (s : Int)) w3).mono ?_
  rintro e w4 ⟨v, rfl, hv, hb⟩
  have A4 := A3.new hb
  clear A3 hb
  by_cases h1 : 1 + (s : Int) < 1 + (n : Int)
  · have hE := putE_low (F := ⟨1, 1 + (k : Int), 1 + (n : Int), []⟩) rfl (n := 1 + (s : Int)) (by omega) h1
    go_wp2_with fail
    refine (putR_on v _ 5 _ hE w4 A4 hv).mono ?_
    rintro e w5 ⟨rfl, A5, -⟩
    clear A4 hv hE
    go_wp2_with fail
    refine (filLen_calls p b _ _ A5.fil).mono ?_
    rintro e w' ⟨rfl, rfl⟩
    dsimp only [List.length_nil]
    go_wp2_with fail
    go_ret
    exact ⟨rfl, A5.bel⟩
  by_cases h2 : 1 + (n : Int) + (1 + (k : Int)) ≤ 1 + (s : Int)
  · have hE := putE_far (F := ⟨1, 1 + (k : Int), 1 + (n : Int), []⟩) rfl (n := 1 + (s : Int)) (by omega) (fun _ h => by cases h) h2 (by dsimp only; omega)
    go_wp2_with fail
    refine (putR_on v _ 6 _ hE w4 A4 hv).mono ?_
    rintro e w5 ⟨rfl, A5, -⟩
    clear A4 hv hE
    go_wp2_with fail
    refine (filLen_calls p b _ _ A5.fil).mono ?_
    rintro e w' ⟨rfl, rfl⟩
    dsimp only [List.length_nil]
    go_wp2_with fail
    go_ret
    exact ⟨rfl, A5.bel⟩
  have hE := putE_new (F := ⟨1, 1 + (k : Int), 1 + (n : Int), []⟩) rfl (n := 1 + (s : Int)) (by omega) (fun _ h => by cases h) (by dsimp only; omega) (by dsimp only; omega)
  dsimp only [List.nil_append] at hE
  go_wp2_with fail
  refine (putR_on v _ 0 _ hE w4 A4 hv).mono ?_
  rintro e w5 ⟨rfl, A5, -⟩
  clear A4 hv hE
  by_cases h3 : s = n
  · subst h3
    have hT := putE_twice (F := ⟨1, 1 + (k : Int), 1 + (s : Int), [rR (1 + (s : Int))]⟩) rfl (n := 1 + (s : Int)) (by omega) (List.mem_singleton.2 rfl) rfl
    go_wp2_with fail
    refine (first_on (some (rR (1 + (s : Int)))) (by simp [firstF, rR]) w5 A5).mono ?_
    rintro e w6 ⟨v1, rfl, ⟨vd, rfl, hr1⟩, A6, -⟩
    clear A5
    obtain ⟨va, vc, rfl⟩ := ownsRow_slice hr1
    clear hr1
    dsimp only [Option.getD_some, rR, List.length_nil, Option.isSome_some]
    go_wp2_with fail
    have A7 := A6.new (box_below w6 (.cells #[.int .i64 1, .int .i64 (1 + (s : Int)), .slice va 0 vc, .string ⟨#[107]⟩, .string ⟨#[]⟩] 35))
    generalize w6.alloc (.cells #[.int .i64 1, .int .i64 (1 + (s : Int)), .slice va 0 vc, .string ⟨#[107]⟩, .string ⟨#[]⟩] 35) = w7 at *
    clear A6
    refine (filLen_calls p b _ _ A7.fil).mono ?_
    rintro e w' ⟨rfl, rfl⟩
    dsimp only [List.length_cons, List.length_nil]
    go_wp2_with fail
    refine (lawR7_calls (1 + (s : Int)) _).mono ?_
    rintro e w8 ⟨v, rfl, hv, hb⟩
    have A8 := A7.new hb
    clear A7 hb
    go_wp2_with fail
    refine (putR_on v _ 5 _ hT w8 A8 hv).mono ?_
    rintro e w9 ⟨rfl, A9, -⟩
    clear A8 hv hT
    go_wp2_with fail
    refine (filNext_calls p b _ _ A9.fil).mono ?_
    rintro e w' ⟨rfl, rfl⟩
    dsimp only
    go_wp2_with fail
    go_ret
    exact ⟨rfl, A9.bel⟩
  · have h3' : ¬ 1 + (s : Int) = 1 + (n : Int) := by omega
    have hT := putE_twice (F := ⟨1, 1 + (k : Int), 1 + (n : Int), [rR (1 + (s : Int))]⟩) rfl (n := 1 + (s : Int)) (by omega) (List.mem_singleton.2 rfl) rfl
    go_wp2_with fail
    refine (first_on none (by simp [firstF, rR]; omega) w5 A5).mono ?_
    rintro e w6 ⟨v1, rfl, ⟨vd, rfl, hr1⟩, A6, -⟩
    clear A5
    obtain ⟨va, vc, rfl⟩ := ownsRow_slice hr1
    clear hr1
    dsimp only [Option.getD_none, zeroR, List.length_nil, Option.isSome_none]
    go_wp2_with fail
    have A7 := A6.new (box_below w6 (.cells #[.int .i64 0, .int .i64 0, .slice va 0 vc, .string ⟨#[]⟩, .string ⟨#[]⟩] 35))
    generalize w6.alloc (.cells #[.int .i64 0, .int .i64 0, .slice va 0 vc, .string ⟨#[]⟩, .string ⟨#[]⟩] 35) = w7 at *
    clear A6
    refine (filLen_calls p b _ _ A7.fil).mono ?_
    rintro e w' ⟨rfl, rfl⟩
    dsimp only [List.length_cons, List.length_nil]
    go_wp2_with fail
    refine (lawR7_calls (1 + (s : Int)) _).mono ?_
    rintro e w8 ⟨v, rfl, hv, hb⟩
    have A8 := A7.new hb
    clear A7 hb
    go_wp2_with fail
    refine (putR_on v _ 5 _ hT w8 A8 hv).mono ?_
    rintro e w9 ⟨rfl, A9, -⟩
    clear A8 hv hT
    go_wp2_with fail
    refine (filNext_calls p b _ _ A9.fil).mono ?_
    rintro e w' ⟨rfl, rfl⟩
    dsimp only
    go_wp2_with fail
    go_ret
    exact ⟨by simp; omega, A9.bel⟩

end Go.Proofs.Ytompaldhnbcikaa
