/- The laws' known of filters. Own work; no statement. -/
import Derived.Test.YtompaldhnbcikaaF11
set_option linter.unusedSimpArgs false
set_option linter.unusedVariables false
namespace Go.Proofs.Ytompaldhnbcikaa
open Go.RowKit Go.Shelf Go.Sort

def kF0 : FilD := ⟨1, 3, 1, []⟩
def kF1 : FilD := ⟨1, 3, 1, [rR 2]⟩
def kF2 : FilD := ⟨1, 3, 1, [rR 2, rR 1]⟩
def kF3 : FilD := ⟨1, 3, 3, []⟩
theorem kE1 : putE kF0 (rR 2) = 0 := by decide +kernel
theorem kG1 : putF kF0 (rR 2) = kF1 := by kernel_rfl
theorem kE2 : putE kF1 (rR 4) = 6 := by decide +kernel
theorem kG2 : putF kF1 (rR 4) = kF1 := by kernel_rfl
theorem kE3 : putE kF1 (rR 1) = 0 := by decide +kernel
theorem kG3 : putF kF1 (rR 1) = kF2 := by kernel_rfl
theorem kE4 : putE kF2 (rR 2) = 5 := by decide +kernel
theorem kG4 : putF kF2 (rR 2) = kF2 := by kernel_rfl
theorem kO1 : firstF kF1 = none := by kernel_rfl
theorem kO2 : firstF kF2 = some (rR 1) := by kernel_rfl
theorem kL : (readyL kF2).take 9 = [rR 1, rR 2] := by kernel_rfl
theorem kG5 : takesF (min 9 (readyL kF2).length) kF2 = kF3 := by kernel_rfl
theorem kE6 : putE kF3 (rR 1) = 5 := by decide +kernel
theorem kG6 : putF kF3 (rR 1) = kF3 := by kernel_rfl
theorem kE7 : resetE 1 = 0 := by decide +kernel
theorem kG7 : resetF kF3 1 = kF0 := by kernel_rfl

set_option maxRecDepth 100000 in
set_option maxHeartbeats 8000000 in
theorem filKnown_calls (w : World) : Calls Try.prog 8 #[] w fun e w' => e = .returned (.bool true) ∧ Below w.heap.size w w' := by
  go_enter Try.func8, Try.ntmps8
  go_wp2_with fail
  refine (filNew_calls 1 3 w (by decide)).mono ?_
  rintro e w1 ⟨rfl, hf, hb⟩
  have A1 : AtF w w1 (w.heap.size + 1) w.heap.size kF0 := ⟨hf, by omega, Nat.le_refl _, hb⟩
  generalize w.heap.size + 1 = p at *
  generalize hbb : w.heap.size = b at A1
  clear hf hb hbb
  go_wp2_with fail
  refine (lawR7_calls 2 w1).mono ?_
  rintro e w2 ⟨v, rfl, hv, hb⟩
  have A2 := A1.new hb
  clear A1 hb
  go_wp2_with fail
  refine (put_on v (rR 2) 0 kF1 kE1 kG1 (by decide) (by decide) (by decide) w2 A2 hv).mono ?_
  rintro e w3 ⟨rfl, A3, -⟩
  clear A2 hv
  go_wp2_with fail
  refine (first_on none kO1 w3 A3).mono ?_
  rintro e w4 ⟨v1, rfl, ⟨vd, rfl, hr1⟩, A4, -⟩
  clear A3
  obtain ⟨va, vc, rfl⟩ := ownsRow_slice hr1
  clear hr1
  dsimp only [Option.getD_none, zeroR, List.length_nil, Option.isSome_none]
  go_wp2_with fail
  have A5 := A4.new (box_below w4 (.cells #[.int .i64 0, .int .i64 0, .slice va 0 vc, .string ⟨#[]⟩, .string ⟨#[]⟩] 35))
  generalize w4.alloc (.cells #[.int .i64 0, .int .i64 0, .slice va 0 vc, .string ⟨#[]⟩, .string ⟨#[]⟩] 35) = w5 at *
  clear A4
  refine (lawR7_calls 4 w5).mono ?_
  rintro e w6 ⟨v, rfl, hv, hb⟩
  have A6 := A5.new hb
  clear A5 hb
  go_wp2_with fail
  refine (put_on _ (rR 4) 6 kF1 kE2 kG2 (by decide) (by decide) (by decide) w6 A6 hv).mono ?_
  rintro e w7 ⟨rfl, A7, -⟩
  clear A6 hv
  go_wp2_with fail
  refine (lawR7_calls 1 w7).mono ?_
  rintro e w8 ⟨v, rfl, hv, hb⟩
  have A8 := A7.new hb
  clear A7 hb
  go_wp2_with fail
  refine (put_on _ (rR 1) 0 kF2 kE3 kG3 (by decide) (by decide) (by decide) w8 A8 hv).mono ?_
  rintro e w9 ⟨rfl, A9, -⟩
  clear A8 hv
  go_wp2_with fail
  refine (lawR7_calls 2 w9).mono ?_
  rintro e w10 ⟨v, rfl, hv, hb⟩
  have A10 := A9.new hb
  clear A9 hb
  go_wp2_with fail
  refine (put_on _ (rR 2) 5 kF2 kE4 kG4 (by decide) (by decide) (by decide) w10 A10 hv).mono ?_
  rintro e w11 ⟨rfl, A11, -⟩
  clear A10 hv
  go_wp2_with fail
  refine (first_on (some (rR 1)) kO2 w11 A11).mono ?_
  rintro e w12 ⟨v2, rfl, ⟨vd, rfl, hr1⟩, A12, -⟩
  clear A11
  obtain ⟨xa, xc, rfl⟩ := ownsRow_slice hr1
  clear hr1
  dsimp only [Option.getD_some, rR, List.length_nil, Option.isSome_some]
  go_wp2_with fail
  have A13 := A12.new (box_below w12 (.cells #[.int .i64 1, .int .i64 1, .slice xa 0 xc, .string ⟨#[107]⟩, .string ⟨#[]⟩] 35))
  have hx13 := World.alloc_heap_new w12 (.cells #[.int .i64 1, .int .i64 1, .slice xa 0 xc, .string ⟨#[107]⟩, .string ⟨#[]⟩] 35)
  generalize w12.alloc (.cells #[.int .i64 1, .int .i64 1, .slice xa 0 xc, .string ⟨#[107]⟩, .string ⟨#[]⟩] 35) = w13 at *
  generalize w12.heap.size = X at *
  clear A12
  refine (taken_on 9 (by decide) (by decide) [rR 1, rR 2] kF3 kL kG5 w13 A13).mono ?_
  rintro e w14 ⟨vl, rfl, hl, A14, k14⟩
  have hx14 := (k14 _ _ _ _ hx13 (by decide)).trans hx13
  clear A13 hx13 k14
  obtain ⟨la, lc, rfl, hlc⟩ := hl.form
  have hlc1 := hlc 1 (by decide)
  obtain ⟨lg, rfl, hc1⟩ := hlc1
  replace hc1 := World.block_lt_of_cell? w14 _ hc1
  clear hlc hc1
  dsimp only [List.length_cons, List.length_nil]
  go_wp2_with fail
  refine (lawR7_calls 1 w14).mono ?_
  rintro e w15 ⟨v, rfl, hv, hb⟩
  have A15 := A14.new hb
  replace hl := hl.below hb
  replace hx14 := keepB hx14 hb
  clear A14 hb
  go_wp2_with fail
  refine (put_on _ (rR 1) 5 kF3 kE6 kG6 (by decide) (by decide) (by decide) w15 A15 hv).mono ?_
  rintro e w16 ⟨rfl, A16, k16⟩
  replace hl := hl.kept k16
  replace hx14 := (k16 _ _ _ _ hx14 (by decide)).trans hx14
  clear A15 hv k16
  go_wp2_with fail
  refine (reset_on 1 0 kF0 kE7 kG7 w16 A16).mono ?_
  rintro e w17 ⟨rfl, A17, k17⟩
  replace hl := hl.kept k17
  replace hx14 := (k17 _ _ _ _ hx14 (by decide)).trans hx14
  clear A16 k17
  obtain ⟨x0, x1, x2, x3, x4, -, -, -, -, -⟩ := cells5F hx14
  obtain ⟨la', lc', e1, hlc⟩ := hl.form
  obtain ⟨lg', e2, hc1⟩ := hlc 1 (by decide)
  have hg : lg' = lg := by
    simp only [Value.slice.injEq] at e1
    rw [e2] at e1
    simpa using e1.1.symm
  subst hg
  have hc1' : w17.cell? ⟨lg', 6, none⟩ = some (.int .i64 2) := hc1
  clear hlc e1 e2 hc1 hx14
  go_wp2_with fail
  refine (filNext_calls p b kF0 w17 A17.fil).mono ?_
  rintro e w' ⟨rfl, rfl⟩
  dsimp only [kF0]
  go_wp2_with fail
  refine (filLen_calls p b kF0 _ A17.fil).mono ?_
  rintro e w' ⟨rfl, rfl⟩
  dsimp only [kF0, List.length_nil]
  go_wp2_with fail
  go_ret
  exact ⟨rfl, A17.bel⟩

end Go.Proofs.Ytompaldhnbcikaa
