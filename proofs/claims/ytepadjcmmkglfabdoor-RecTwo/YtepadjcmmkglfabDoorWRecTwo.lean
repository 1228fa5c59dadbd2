/- The walk of RecTwo. Own work; no statement. -/
import Derived.Test.YtepadjcmmkglfabDoorRefR
import Derived.Test.YtepadjcmmkglfabDoorFrameR
set_option linter.unusedSimpArgs false
set_option linter.unusedVariables false
namespace Go.Proofs.YtepadjcmmkglfabDoor
open Go.RowKit Go.Sort

theorem before_asym (a b : RecD) (h : beforeR a b = true) : beforeR b a = false := by
  unfold beforeR at *
  simp only [decide_eq_true_eq, decide_eq_false_iff_not] at *
  omega

set_option maxRecDepth 100000 in
set_option maxHeartbeats 8000000 in
theorem recTwo_main (va : Value) (a : RecD) (vb : Value) (b : RecD) (w : World) (ha : IsRec w va a) (wa : RecWf a) (hb : IsRec w vb b) (wb : RecWf b) (hp : Pow w) :
    Calls Tryd.prog 6 #[va, vb] w fun e w' => e = .returned (.bool true) ∧ Below w.heap.size w w' := by
  clear wa wb
  have hasym := hide (before_asym a b)
  obtain ⟨fa, hfa⟩ : ∃ x, fewR a = x := ⟨_, rfl⟩
  obtain ⟨fb, hfb⟩ : ∃ x, fewR b = x := ⟨_, rfl⟩
  obtain ⟨s1, hs1⟩ : ∃ x, beforeR a b = x := ⟨_, rfl⟩
  obtain ⟨s2, hs2⟩ : ∃ x, beforeR b a = x := ⟨_, rfl⟩
  obtain ⟨s3, hs3⟩ : ∃ x, sameR a b = x := ⟨_, rfl⟩
  have Hfa := hide hfa
  have Hfb := hide hfb
  have Hs1 := hide hs1
  have Hs2 := hide hs2
  have Hs3 := hide hs3
  clear hfa hfb hs1 hs2 hs3
  obtain ⟨asite, aseq, adep, akey, aval⟩ := a
  obtain ⟨ap, acap, rfl, hna⟩ := ha
  obtain ⟨bsite, bseq, bdep, bkey, bval⟩ := b
  obtain ⟨bp, bcap, rfl, hnb⟩ := hb
  dsimp only at hna hnb ⊢
  obtain ⟨W0, hW0⟩ : ∃ W0, (w.alloc (.cells #[.int .i64 asite, .int .i64 aseq, .slice ap adep.length acap, .string akey, .string aval] 40)).alloc (.cells #[.int .i64 bsite, .int .i64 bseq, .slice bp bdep.length bcap, .string bkey, .string bval] 40) = W0 := ⟨_, rfl⟩
  have hB : Below w.heap.size w W0 := by rw [← hW0]; exact (box_below w _).alloc (by simp) _
  have Xa : W0.heap[w.heap.size]? = some (.cells #[.int .i64 asite, .int .i64 aseq, .slice ap adep.length acap, .string akey, .string aval] 40 (0, 0)) := by rw [← hW0]; exact (Below.heap_alloc _ _ _ (by simp)).trans (World.alloc_heap_new w _)
  have Xb : W0.heap[w.heap.size + 1]? = some (.cells #[.int .i64 bsite, .int .i64 bseq, .slice bp bdep.length bcap, .string bkey, .string bval] 40 (0, 0)) := by
    have := World.alloc_heap_new (w.alloc (.cells #[.int .i64 asite, .int .i64 aseq, .slice ap adep.length acap, .string akey, .string aval] 40)) (.cells #[.int .i64 bsite, .int .i64 bseq, .slice bp bdep.length bcap, .string bkey, .string bval] 40)
    rw [hW0, World.size_alloc] at this
    exact this
  replace hna := hna.below hB
  replace hnb := hnb.below hB
  have hP := hp.below hB
  have HW := hide hW0
  clear hW0 hp
  go_enter Tryd.func6, Tryd.ntmps6
  go_wp2_with fail
  rw [HW.out]
  clear HW
  refine (recKnown_calls _ hP).mono ?_
  rintro e w1 ⟨rfl, hb⟩
  replace Xa := keepB Xa hb
  replace hna := hna.below hb
  replace Xb := keepB Xb hb
  replace hnb := hnb.below hb
  replace hB := hB.trans (hb.mono hB.size)
  clear hb
  clear hP
  have M0 := cell_at Xa 0
  have M1 := cell_at Xa 1
  have M2 := cell_at Xa 2
  have M3 := cell_at Xa 3
  have M4 := cell_at Xa 4
  simp only [List.getElem?_toArray, List.getElem?_cons_zero, List.getElem?_cons_succ] at M0 M1 M2 M3 M4
  have H1 := hide Xa
  have H2 := hide Xb
  have Ha := hide hna
  have Hb := hide hnb
  have HB := hide hB
  clear Xa Xb hna hnb hB
  go_wp2_with fail
  clear M0 M1 M2 M3 M4
  have Xa := H1.out
  have Xb := H2.out
  have hna := Ha.out
  have hnb := Hb.out
  have hB := HB.out
  clear H1 H2 Ha Hb HB
  have u := recFew_calls _ _ w1 (show IsRec w1 (.agg #[.int .i64 asite, .int .i64 aseq, .slice ap adep.length acap, .string akey, .string aval]) ⟨asite, aseq, adep, akey, aval⟩ from ⟨ap, acap, rfl, hna⟩)
  rw [Hfa.out] at u
  refine u.mono ?_
  rintro e w2 ⟨rfl, hb⟩
  clear u
  replace Xa := keepB Xa hb
  replace hna := hna.below hb
  replace Xb := keepB Xb hb
  replace hnb := hnb.below hb
  replace hB := hB.trans (hb.mono hB.size)
  clear hb
  cases fa with
  | false =>
    clear Xa Xb hna hnb
    go_wp2_with fail
    go_ret
    exact ⟨rfl, hB⟩
  | true =>
    have M0 := cell_at Xb 0
    have M1 := cell_at Xb 1
    have M2 := cell_at Xb 2
    have M3 := cell_at Xb 3
    have M4 := cell_at Xb 4
    simp only [List.getElem?_toArray, List.getElem?_cons_zero, List.getElem?_cons_succ] at M0 M1 M2 M3 M4
    have H1 := hide Xa
    have H2 := hide Xb
    have Ha := hide hna
    have Hb := hide hnb
    have HB := hide hB
    clear Xa Xb hna hnb hB
    go_wp2_with fail
    clear M0 M1 M2 M3 M4
    have Xa := H1.out
    have Xb := H2.out
    have hna := Ha.out
    have hnb := Hb.out
    have hB := HB.out
    clear H1 H2 Ha Hb HB
    have u := recFew_calls _ _ w2 (show IsRec w2 (.agg #[.int .i64 bsite, .int .i64 bseq, .slice bp bdep.length bcap, .string bkey, .string bval]) ⟨bsite, bseq, bdep, bkey, bval⟩ from ⟨bp, bcap, rfl, hnb⟩)
    rw [Hfb.out] at u
    refine u.mono ?_
    rintro e w3 ⟨rfl, hb⟩
    clear u
    replace Xa := keepB Xa hb
    replace hna := hna.below hb
    replace Xb := keepB Xb hb
    replace hnb := hnb.below hb
    replace hB := hB.trans (hb.mono hB.size)
    clear hb
    cases fb with
    | false =>
      clear Xa Xb hna hnb
      go_wp2_with fail
      go_ret
      exact ⟨rfl, hB⟩
    | true =>
      have la : adep.length ≤ 1099511627776 := by have := Hfa.out; simp [fewR] at this; omega
      have lb : bdep.length ≤ 1099511627776 := by have := Hfb.out; simp [fewR] at this; omega
      have ra := fun d os => (show IsRec (grow (redrawn w3 d) os) (.agg #[.int .i64 asite, .int .i64 aseq, .slice ap adep.length acap, .string akey, .string aval]) ⟨asite, aseq, adep, akey, aval⟩ from ⟨ap, acap, rfl, hna.below (below_regrown w3 d os)⟩)
      have rb := fun d os => (show IsRec (grow (redrawn w3 d) os) (.agg #[.int .i64 bsite, .int .i64 bseq, .slice bp bdep.length bcap, .string bkey, .string bval]) ⟨bsite, bseq, bdep, bkey, bval⟩ from ⟨bp, bcap, rfl, hnb.below (below_regrown w3 d os)⟩)
      have q1 := hide (fun d os => Calls.regrown_of (before_calls _ _ _ _ _ (ra d os) (rb d os)))
      have q2 := hide (fun d os => Calls.regrown_of (before_calls _ _ _ _ _ (rb d os) (ra d os)))
      have q3 := hide (fun d os => Calls.regrown_of (recSame_calls _ _ _ _ _ (ra d os) (rb d os) la lb))
      have q4 := hide (fun d os => Calls.regrown_of (refBefore_calls _ _ _ _ _ (ra d os) (rb d os)))
      have q5 := hide (fun d os => Calls.regrown_of (refSameRec_calls _ _ _ _ _ (ra d os) (rb d os) la lb))
      have q6 := hide (fun d os => Calls.regrown_of (recOfLaw_calls _ _ _ (ra d os)))
      have q7 := hide (fun d os => Calls.regrown_of (recOfLaw_calls _ _ _ (rb d os)))
      rw [Hs1.out] at q1 q4
      rw [Hs2.out] at q2
      rw [Hs3.out] at q3 q5
      have hsy : s1 = true → s2 = false := fun h => by rw [← Hs2.out]; exact hasym.out (Hs1.out.trans h)
      clear ra rb hna hnb Hs1 Hs2 Hs3 Hfa Hfb hasym la lb
      have ka0 := cell_regrown (cell_at Xa 0)
      have ka1 := cell_regrown (cell_at Xa 1)
      have ka2 := cell_regrown (cell_at Xa 2)
      have ka3 := cell_regrown (cell_at Xa 3)
      have ka4 := cell_regrown (cell_at Xa 4)
      have kb0 := cell_regrown (cell_at Xb 0)
      have kb1 := cell_regrown (cell_at Xb 1)
      have kb2 := cell_regrown (cell_at Xb 2)
      have kb3 := cell_regrown (cell_at Xb 3)
      have kb4 := cell_regrown (cell_at Xb 4)
      clear Xa Xb
      have HB := hide hB
      clear hB
      cases s1 with
      | true =>
        obtain rfl := hsy rfl
        clear hsy
        cases s3 with
        | true =>
          go_wp2_with fail
          refine wp_region_quiet_below (by kernel_rfl) (by kernel_rfl) ?_
          first | go_big_quiet_step (fail) | quiet_step (fail)
          first | go_big_quiet_step (fail) | quiet_step (fail)
          first | go_big_quiet_step (exact q1.out _ _) | quiet_step (exact q1.out _ _)
          first | go_big_quiet_step (fail) | quiet_step (fail)
          first | go_big_quiet_step (exact q6.out _ _) | quiet_step (exact q6.out _ _)
          first | go_big_quiet_step (fail) | quiet_step (fail)
          first | go_big_quiet_step (exact q7.out _ _) | quiet_step (exact q7.out _ _)
          first | go_big_quiet_step (exact q4.out _ _) | quiet_step (exact q4.out _ _)
          first | go_big_quiet_step (fail) | quiet_step (fail)
          first | go_big_quiet_step (fail) | quiet_step (fail)
          first | go_big_quiet_step (fail) | quiet_step (fail)
          first | go_big_quiet_step (fail) | quiet_step (fail)
          first | go_big_quiet_step (exact q3.out _ _) | quiet_step (exact q3.out _ _)
          first | go_big_quiet_step (fail) | quiet_step (fail)
          first | go_big_quiet_step (exact q6.out _ _) | quiet_step (exact q6.out _ _)
          first | go_big_quiet_step (fail) | quiet_step (fail)
          first | go_big_quiet_step (exact q7.out _ _) | quiet_step (exact q7.out _ _)
          first | go_big_quiet_step (exact q5.out _ _) | quiet_step (exact q5.out _ _)
          first | go_big_quiet_step (fail) | quiet_step (fail)
          first | go_big_quiet_step (fail) | quiet_step (fail)
          first | go_big_quiet_step (fail) | quiet_step (fail)
          first | go_big_quiet_step (fail) | quiet_step (fail)
          first | go_big_quiet_step (fail) | quiet_step (fail)
          first | go_big_quiet_step (exact q1.out _ _) | quiet_step (exact q1.out _ _)
          first | go_big_quiet_step (fail) | quiet_step (fail)
          first | go_big_quiet_step (fail) | quiet_step (fail)
          first | go_big_quiet_step (fail) | quiet_step (fail)
          first | go_big_quiet_step (exact q2.out _ _) | quiet_step (exact q2.out _ _)
          first | go_big_quiet_step (fail) | quiet_step (fail)
          first | go_big_quiet_step (fail) | quiet_step (fail)
          first | go_big_quiet_step (fail) | quiet_step (fail)
          first | go_big_quiet_step (fail) | quiet_step (fail)
          refine wpQuiet_nil ?_
          intro _ hw'
          obtain ⟨⟨dq, osq⟩, hw''⟩ := hw'
          subst hw''
          go_wp2_with fail
          go_ret
          exact ⟨rfl, HB.out.trans ((below_regrown w3 dq osq).mono HB.out.size)⟩
        | false =>
          go_wp2_with fail
          refine wp_region_quiet_below (by kernel_rfl) (by kernel_rfl) ?_
          first | go_big_quiet_step (fail) | quiet_step (fail)
          first | go_big_quiet_step (fail) | quiet_step (fail)
          first | go_big_quiet_step (exact q1.out _ _) | quiet_step (exact q1.out _ _)
          first | go_big_quiet_step (fail) | quiet_step (fail)
          first | go_big_quiet_step (exact q6.out _ _) | quiet_step (exact q6.out _ _)
          first | go_big_quiet_step (fail) | quiet_step (fail)
          first | go_big_quiet_step (exact q7.out _ _) | quiet_step (exact q7.out _ _)
          first | go_big_quiet_step (exact q4.out _ _) | quiet_step (exact q4.out _ _)
          first | go_big_quiet_step (fail) | quiet_step (fail)
          first | go_big_quiet_step (fail) | quiet_step (fail)
          first | go_big_quiet_step (fail) | quiet_step (fail)
          first | go_big_quiet_step (fail) | quiet_step (fail)
          first | go_big_quiet_step (exact q3.out _ _) | quiet_step (exact q3.out _ _)
          first | go_big_quiet_step (fail) | quiet_step (fail)
          first | go_big_quiet_step (exact q6.out _ _) | quiet_step (exact q6.out _ _)
          first | go_big_quiet_step (fail) | quiet_step (fail)
          first | go_big_quiet_step (exact q7.out _ _) | quiet_step (exact q7.out _ _)
          first | go_big_quiet_step (exact q5.out _ _) | quiet_step (exact q5.out _ _)
          first | go_big_quiet_step (fail) | quiet_step (fail)
          first | go_big_quiet_step (fail) | quiet_step (fail)
          first | go_big_quiet_step (fail) | quiet_step (fail)
          first | go_big_quiet_step (fail) | quiet_step (fail)
          first | go_big_quiet_step (fail) | quiet_step (fail)
          first | go_big_quiet_step (exact q1.out _ _) | quiet_step (exact q1.out _ _)
          first | go_big_quiet_step (fail) | quiet_step (fail)
          first | go_big_quiet_step (fail) | quiet_step (fail)
          first | go_big_quiet_step (fail) | quiet_step (fail)
          first | go_big_quiet_step (exact q2.out _ _) | quiet_step (exact q2.out _ _)
          first | go_big_quiet_step (fail) | quiet_step (fail)
          first | go_big_quiet_step (fail) | quiet_step (fail)
          first | go_big_quiet_step (fail) | quiet_step (fail)
          first | go_big_quiet_step (fail) | quiet_step (fail)
          refine wpQuiet_nil ?_
          intro _ hw'
          obtain ⟨⟨dq, osq⟩, hw''⟩ := hw'
          subst hw''
          go_wp2_with fail
          go_ret
          exact ⟨rfl, HB.out.trans ((below_regrown w3 dq osq).mono HB.out.size)⟩
      | false =>
        clear hsy
        cases s3 with
        | true =>
          go_wp2_with fail
          refine wp_region_quiet_below (by kernel_rfl) (by kernel_rfl) ?_
          first | go_big_quiet_step (fail) | quiet_step (fail)
          first | go_big_quiet_step (fail) | quiet_step (fail)
          first | go_big_quiet_step (exact q1.out _ _) | quiet_step (exact q1.out _ _)
          first | go_big_quiet_step (fail) | quiet_step (fail)
          first | go_big_quiet_step (exact q6.out _ _) | quiet_step (exact q6.out _ _)
          first | go_big_quiet_step (fail) | quiet_step (fail)
          first | go_big_quiet_step (exact q7.out _ _) | quiet_step (exact q7.out _ _)
          first | go_big_quiet_step (exact q4.out _ _) | quiet_step (exact q4.out _ _)
          first | go_big_quiet_step (fail) | quiet_step (fail)
          first | go_big_quiet_step (fail) | quiet_step (fail)
          first | go_big_quiet_step (fail) | quiet_step (fail)
          first | go_big_quiet_step (fail) | quiet_step (fail)
          first | go_big_quiet_step (exact q3.out _ _) | quiet_step (exact q3.out _ _)
          first | go_big_quiet_step (fail) | quiet_step (fail)
          first | go_big_quiet_step (exact q6.out _ _) | quiet_step (exact q6.out _ _)
          first | go_big_quiet_step (fail) | quiet_step (fail)
          first | go_big_quiet_step (exact q7.out _ _) | quiet_step (exact q7.out _ _)
          first | go_big_quiet_step (exact q5.out _ _) | quiet_step (exact q5.out _ _)
          first | go_big_quiet_step (fail) | quiet_step (fail)
          first | go_big_quiet_step (fail) | quiet_step (fail)
          first | go_big_quiet_step (fail) | quiet_step (fail)
          first | go_big_quiet_step (fail) | quiet_step (fail)
          first | go_big_quiet_step (fail) | quiet_step (fail)
          first | go_big_quiet_step (exact q1.out _ _) | quiet_step (exact q1.out _ _)
          first | go_big_quiet_step (fail) | quiet_step (fail)
          first | go_big_quiet_step (fail) | quiet_step (fail)
          first | go_big_quiet_step (fail) | quiet_step (fail)
          first | go_big_quiet_step (fail) | quiet_step (fail)
          first | go_big_quiet_step (fail) | quiet_step (fail)
          first | go_big_quiet_step (fail) | quiet_step (fail)
          first | go_big_quiet_step (fail) | quiet_step (fail)
          first | go_big_quiet_step (fail) | quiet_step (fail)
          refine wpQuiet_nil ?_
          intro _ hw'
          obtain ⟨⟨dq, osq⟩, hw''⟩ := hw'
          subst hw''
          go_wp2_with fail
          go_ret
          exact ⟨rfl, HB.out.trans ((below_regrown w3 dq osq).mono HB.out.size)⟩
        | false =>
          go_wp2_with fail
          refine wp_region_quiet_below (by kernel_rfl) (by kernel_rfl) ?_
          first | go_big_quiet_step (fail) | quiet_step (fail)
          first | go_big_quiet_step (fail) | quiet_step (fail)
          first | go_big_quiet_step (exact q1.out _ _) | quiet_step (exact q1.out _ _)
          first | go_big_quiet_step (fail) | quiet_step (fail)
          first | go_big_quiet_step (exact q6.out _ _) | quiet_step (exact q6.out _ _)
          first | go_big_quiet_step (fail) | quiet_step (fail)
          first | go_big_quiet_step (exact q7.out _ _) | quiet_step (exact q7.out _ _)
          first | go_big_quiet_step (exact q4.out _ _) | quiet_step (exact q4.out _ _)
          first | go_big_quiet_step (fail) | quiet_step (fail)
          first | go_big_quiet_step (fail) | quiet_step (fail)
          first | go_big_quiet_step (fail) | quiet_step (fail)
          first | go_big_quiet_step (fail) | quiet_step (fail)
          first | go_big_quiet_step (exact q3.out _ _) | quiet_step (exact q3.out _ _)
          first | go_big_quiet_step (fail) | quiet_step (fail)
          first | go_big_quiet_step (exact q6.out _ _) | quiet_step (exact q6.out _ _)
          first | go_big_quiet_step (fail) | quiet_step (fail)
          first | go_big_quiet_step (exact q7.out _ _) | quiet_step (exact q7.out _ _)
          first | go_big_quiet_step (exact q5.out _ _) | quiet_step (exact q5.out _ _)
          first | go_big_quiet_step (fail) | quiet_step (fail)
          first | go_big_quiet_step (fail) | quiet_step (fail)
          first | go_big_quiet_step (fail) | quiet_step (fail)
          first | go_big_quiet_step (fail) | quiet_step (fail)
          first | go_big_quiet_step (fail) | quiet_step (fail)
          first | go_big_quiet_step (exact q1.out _ _) | quiet_step (exact q1.out _ _)
          first | go_big_quiet_step (fail) | quiet_step (fail)
          first | go_big_quiet_step (fail) | quiet_step (fail)
          first | go_big_quiet_step (fail) | quiet_step (fail)
          first | go_big_quiet_step (fail) | quiet_step (fail)
          first | go_big_quiet_step (fail) | quiet_step (fail)
          first | go_big_quiet_step (fail) | quiet_step (fail)
          first | go_big_quiet_step (fail) | quiet_step (fail)
          first | go_big_quiet_step (fail) | quiet_step (fail)
          refine wpQuiet_nil ?_
          intro _ hw'
          obtain ⟨⟨dq, osq⟩, hw''⟩ := hw'
          subst hw''
          go_wp2_with fail
          go_ret
          exact ⟨rfl, HB.out.trans ((below_regrown w3 dq osq).mono HB.out.size)⟩

end Go.Proofs.YtepadjcmmkglfabDoor
