/- The walk of RecSorted. Own work; no statement. -/
import Derived.Test.YtepadjcmmkglfacDoorFrameR
import Derived.Test.YtepadjcmmkglfacDoorPlain
set_option linter.unusedSimpArgs false
set_option linter.unusedVariables false
namespace Go.Proofs.YtepadjcmmkglfacDoor
open Go.RowKit Go.Sort

theorem before_trans (a b c : RecD) (h : beforeR a b = true) (h' : beforeR b c = true) : beforeR a c = true := by
  unfold beforeR at *
  simp only [decide_eq_true_eq] at *
  omega
theorem before_total (a b : RecD) (h : beforeR a b = false) (h' : beforeR b a = false) : a.site = b.site ∧ a.seq = b.seq := by
  unfold beforeR at *
  simp only [decide_eq_false_iff_not] at *
  omega
theorem every_eq_trans {a b c : List Int} (h : everyB eqB a b = true) (h' : everyB eqB b c = true) : everyB eqB a c = true := by
  rw [same_iff] at *
  intro i
  rw [h i, h' i]
theorem same_trans (a b c : RecD) (h : sameR a b = true) (h' : sameR b c = true) : sameR a c = true := by
  unfold sameR at *
  simp only [Bool.and_eq_true, decide_eq_true_eq] at *
  obtain ⟨h1, h2, h3, h4, h5⟩ := h
  obtain ⟨g1, g2, g3, g4, g5⟩ := h'
  exact ⟨h1.trans g1, h2.trans g2, h3.trans g3, h4.trans g4, every_eq_trans h5 g5⟩

set_option maxRecDepth 100000 in
set_option maxHeartbeats 8000000 in
theorem recSorted_main (va : Value) (a : RecD) (vb : Value) (b : RecD) (vc : Value) (c : RecD) (w : World) (ha : IsRec w va a) (wa : RecWf a) (hb : IsRec w vb b) (wb : RecWf b) (hc : IsRec w vc c) (wc : RecWf c) (hp : Pow w) :
    Calls Tryd.prog 4 #[va, vb, vc] w fun e w' => e = .returned (.bool true) ∧ Below w.heap.size w w' := by
  clear wa wb wc
  have htr := hide (before_trans a b c)
  have hto := hide (before_total a b)
  have hst := hide (same_trans a b c)
  obtain ⟨fa, hfa⟩ : ∃ x, fewR a = x := ⟨_, rfl⟩
  have Hfa := hide hfa
  clear hfa
  obtain ⟨fb, hfb⟩ : ∃ x, fewR b = x := ⟨_, rfl⟩
  have Hfb := hide hfb
  clear hfb
  obtain ⟨fc, hfc⟩ : ∃ x, fewR c = x := ⟨_, rfl⟩
  have Hfc := hide hfc
  clear hfc
  obtain ⟨sab, hsab⟩ : ∃ x, beforeR a b = x := ⟨_, rfl⟩
  have Hsab := hide hsab
  clear hsab
  obtain ⟨sbc, hsbc⟩ : ∃ x, beforeR b c = x := ⟨_, rfl⟩
  have Hsbc := hide hsbc
  clear hsbc
  obtain ⟨sac, hsac⟩ : ∃ x, beforeR a c = x := ⟨_, rfl⟩
  have Hsac := hide hsac
  clear hsac
  obtain ⟨sba, hsba⟩ : ∃ x, beforeR b a = x := ⟨_, rfl⟩
  have Hsba := hide hsba
  clear hsba
  obtain ⟨eab, heab⟩ : ∃ x, sameR a b = x := ⟨_, rfl⟩
  have Heab := hide heab
  clear heab
  obtain ⟨ebc, hebc⟩ : ∃ x, sameR b c = x := ⟨_, rfl⟩
  have Hebc := hide hebc
  clear hebc
  obtain ⟨eac, heac⟩ : ∃ x, sameR a c = x := ⟨_, rfl⟩
  have Heac := hide heac
  clear heac
  obtain ⟨asite, aseq, adep, akey, aval⟩ := a
  obtain ⟨ap, acap, rfl, hna⟩ := ha
  obtain ⟨bsite, bseq, bdep, bkey, bval⟩ := b
  obtain ⟨bp, bcap, rfl, hnb⟩ := hb
  obtain ⟨csite, cseq, cdep, ckey, cval⟩ := c
  obtain ⟨cp, ccap, rfl, hnc⟩ := hc
  dsimp only at hna hnb hnc hto ⊢
  obtain ⟨W0, hW0⟩ : ∃ W0, (((w.alloc (.cells #[.int .i64 asite, .int .i64 aseq, .slice ap adep.length acap, .string akey, .string aval] 27)).alloc (.cells #[.int .i64 bsite, .int .i64 bseq, .slice bp bdep.length bcap, .string bkey, .string bval] 27)).alloc (.cells #[.int .i64 csite, .int .i64 cseq, .slice cp cdep.length ccap, .string ckey, .string cval] 27)) = W0 := ⟨_, rfl⟩
  have hB : Below w.heap.size w W0 := by rw [← hW0]; exact (((box_below w _).alloc (by simp) _).alloc (by simp <;> omega) _)
  have Xa : W0.heap[w.heap.size]? = some (.cells #[.int .i64 asite, .int .i64 aseq, .slice ap adep.length acap, .string akey, .string aval] 27 (0, 0)) := by
    have h := (World.alloc_heap_new w (.cells #[.int .i64 asite, .int .i64 aseq, .slice ap adep.length acap, .string akey, .string aval] 27))
    rw [← hW0]
    exact ((Below.heap_alloc _ _ _ (by simp <;> omega)).trans ((Below.heap_alloc _ _ _ (by simp <;> omega)).trans h))
  have Xb : W0.heap[w.heap.size + 1]? = some (.cells #[.int .i64 bsite, .int .i64 bseq, .slice bp bdep.length bcap, .string bkey, .string bval] 27 (0, 0)) := by
    have h := (World.alloc_heap_new (w.alloc (.cells #[.int .i64 asite, .int .i64 aseq, .slice ap adep.length acap, .string akey, .string aval] 27)) (.cells #[.int .i64 bsite, .int .i64 bseq, .slice bp bdep.length bcap, .string bkey, .string bval] 27))
    simp only [World.size_alloc, Nat.add_assoc, Nat.reduceAdd] at h
    rw [← hW0]
    exact ((Below.heap_alloc _ _ _ (by simp <;> omega)).trans h)
  have Xc : W0.heap[w.heap.size + 2]? = some (.cells #[.int .i64 csite, .int .i64 cseq, .slice cp cdep.length ccap, .string ckey, .string cval] 27 (0, 0)) := by
    have h := (World.alloc_heap_new ((w.alloc (.cells #[.int .i64 asite, .int .i64 aseq, .slice ap adep.length acap, .string akey, .string aval] 27)).alloc (.cells #[.int .i64 bsite, .int .i64 bseq, .slice bp bdep.length bcap, .string bkey, .string bval] 27)) (.cells #[.int .i64 csite, .int .i64 cseq, .slice cp cdep.length ccap, .string ckey, .string cval] 27))
    simp only [World.size_alloc, Nat.add_assoc, Nat.reduceAdd] at h
    rw [← hW0]
    exact h
  replace hna := hna.below hB
  replace hnb := hnb.below hB
  replace hnc := hnc.below hB
  have hP := hp.below hB
  have HW := hide hW0
  clear hW0 hp
  go_enter Tryd.func4, Tryd.ntmps4
  go_wp2_with fail
  rw [HW.out]
  clear HW
  refine (recKnown_calls _ hP).mono ?_
  rintro e w0 ⟨rfl, hb⟩
  replace Xa := keepB Xa hb
  replace hna := hna.below hb
  replace Xb := keepB Xb hb
  replace hnb := hnb.below hb
  replace Xc := keepB Xc hb
  replace hnc := hnc.below hb
  replace hB := hB.trans (hb.mono hB.size)
  clear hb
  clear hP
  have Ma0 := cell_at Xa 0
  have Ma1 := cell_at Xa 1
  have Ma2 := cell_at Xa 2
  have Ma3 := cell_at Xa 3
  have Ma4 := cell_at Xa 4
  simp only [List.getElem?_toArray, List.getElem?_cons_zero, List.getElem?_cons_succ] at Ma0 Ma1 Ma2 Ma3 Ma4
  have Mb0 := cell_at Xb 0
  have Mb1 := cell_at Xb 1
  have Mb2 := cell_at Xb 2
  have Mb3 := cell_at Xb 3
  have Mb4 := cell_at Xb 4
  simp only [List.getElem?_toArray, List.getElem?_cons_zero, List.getElem?_cons_succ] at Mb0 Mb1 Mb2 Mb3 Mb4
  have Mc0 := cell_at Xc 0
  have Mc1 := cell_at Xc 1
  have Mc2 := cell_at Xc 2
  have Mc3 := cell_at Xc 3
  have Mc4 := cell_at Xc 4
  simp only [List.getElem?_toArray, List.getElem?_cons_zero, List.getElem?_cons_succ] at Mc0 Mc1 Mc2 Mc3 Mc4
  have Ha := hide Xa
  have Hna := hide hna
  have Hb := hide Xb
  have Hnb := hide hnb
  have Hc := hide Xc
  have Hnc := hide hnc
  have HB := hide hB
  clear Xa hna Xb hnb Xc hnc hB
  go_wp2_with fail
  clear Ma0 Ma1 Ma2 Ma3 Ma4 Mb0 Mb1 Mb2 Mb3 Mb4 Mc0 Mc1 Mc2 Mc3 Mc4
  have Xa := Ha.out
  have hna := Hna.out
  have Xb := Hb.out
  have hnb := Hnb.out
  have Xc := Hc.out
  have hnc := Hnc.out
  have hB := HB.out
  clear Ha Hna Hb Hnb Hc Hnc HB
  have u := recFew_calls _ _ w0 (show IsRec w0 (.agg #[.int .i64 asite, .int .i64 aseq, .slice ap adep.length acap, .string akey, .string aval]) ⟨asite, aseq, adep, akey, aval⟩ from ⟨ap, acap, rfl, hna⟩)
  rw [Hfa.out] at u
  refine u.mono ?_
  rintro e w1 ⟨rfl, hb⟩
  clear u
  replace Xa := keepB Xa hb
  replace hna := hna.below hb
  replace Xb := keepB Xb hb
  replace hnb := hnb.below hb
  replace Xc := keepB Xc hb
  replace hnc := hnc.below hb
  replace hB := hB.trans (hb.mono hB.size)
  clear hb
  cases fa with
  | false =>
    clear Xa hna Xb hnb Xc hnc
    go_wp2_with fail
    go_ret
    exact ⟨rfl, hB⟩
  | true =>
    have Ma0 := cell_at Xa 0
    have Ma1 := cell_at Xa 1
    have Ma2 := cell_at Xa 2
    have Ma3 := cell_at Xa 3
    have Ma4 := cell_at Xa 4
    simp only [List.getElem?_toArray, List.getElem?_cons_zero, List.getElem?_cons_succ] at Ma0 Ma1 Ma2 Ma3 Ma4
    have Mb0 := cell_at Xb 0
    have Mb1 := cell_at Xb 1
    have Mb2 := cell_at Xb 2
    have Mb3 := cell_at Xb 3
    have Mb4 := cell_at Xb 4
    simp only [List.getElem?_toArray, List.getElem?_cons_zero, List.getElem?_cons_succ] at Mb0 Mb1 Mb2 Mb3 Mb4
    have Mc0 := cell_at Xc 0
    have Mc1 := cell_at Xc 1
    have Mc2 := cell_at Xc 2
    have Mc3 := cell_at Xc 3
    have Mc4 := cell_at Xc 4
    simp only [List.getElem?_toArray, List.getElem?_cons_zero, List.getElem?_cons_succ] at Mc0 Mc1 Mc2 Mc3 Mc4
    have Ha := hide Xa
    have Hna := hide hna
    have Hb := hide Xb
    have Hnb := hide hnb
    have Hc := hide Xc
    have Hnc := hide hnc
    have HB := hide hB
    clear Xa hna Xb hnb Xc hnc hB
    go_wp2_with fail
    clear Ma0 Ma1 Ma2 Ma3 Ma4 Mb0 Mb1 Mb2 Mb3 Mb4 Mc0 Mc1 Mc2 Mc3 Mc4
    have Xa := Ha.out
    have hna := Hna.out
    have Xb := Hb.out
    have hnb := Hnb.out
    have Xc := Hc.out
    have hnc := Hnc.out
    have hB := HB.out
    clear Ha Hna Hb Hnb Hc Hnc HB
    have u := recFew_calls _ _ w1 (show IsRec w1 (.agg #[.int .i64 bsite, .int .i64 bseq, .slice bp bdep.length bcap, .string bkey, .string bval]) ⟨bsite, bseq, bdep, bkey, bval⟩ from ⟨bp, bcap, rfl, hnb⟩)
    rw [Hfb.out] at u
    refine u.mono ?_
    rintro e w2 ⟨rfl, hb⟩
    clear u
    replace Xa := keepB Xa hb
    replace hna := hna.below hb
    replace Xb := keepB Xb hb
    replace hnb := hnb.below hb
    replace Xc := keepB Xc hb
    replace hnc := hnc.below hb
    replace hB := hB.trans (hb.mono hB.size)
    clear hb
    cases fb with
    | false =>
      clear Xa hna Xb hnb Xc hnc
      go_wp2_with fail
      go_ret
      exact ⟨rfl, hB⟩
    | true =>
      have Ma0 := cell_at Xa 0
      have Ma1 := cell_at Xa 1
      have Ma2 := cell_at Xa 2
      have Ma3 := cell_at Xa 3
      have Ma4 := cell_at Xa 4
      simp only [List.getElem?_toArray, List.getElem?_cons_zero, List.getElem?_cons_succ] at Ma0 Ma1 Ma2 Ma3 Ma4
      have Mb0 := cell_at Xb 0
      have Mb1 := cell_at Xb 1
      have Mb2 := cell_at Xb 2
      have Mb3 := cell_at Xb 3
      have Mb4 := cell_at Xb 4
      simp only [List.getElem?_toArray, List.getElem?_cons_zero, List.getElem?_cons_succ] at Mb0 Mb1 Mb2 Mb3 Mb4
      have Mc0 := cell_at Xc 0
      have Mc1 := cell_at Xc 1
      have Mc2 := cell_at Xc 2
      have Mc3 := cell_at Xc 3
      have Mc4 := cell_at Xc 4
      simp only [List.getElem?_toArray, List.getElem?_cons_zero, List.getElem?_cons_succ] at Mc0 Mc1 Mc2 Mc3 Mc4
      have Ha := hide Xa
      have Hna := hide hna
      have Hb := hide Xb
      have Hnb := hide hnb
      have Hc := hide Xc
      have Hnc := hide hnc
      have HB := hide hB
      clear Xa hna Xb hnb Xc hnc hB
      go_wp2_with fail
      clear Ma0 Ma1 Ma2 Ma3 Ma4 Mb0 Mb1 Mb2 Mb3 Mb4 Mc0 Mc1 Mc2 Mc3 Mc4
      have Xa := Ha.out
      have hna := Hna.out
      have Xb := Hb.out
      have hnb := Hnb.out
      have Xc := Hc.out
      have hnc := Hnc.out
      have hB := HB.out
      clear Ha Hna Hb Hnb Hc Hnc HB
      have u := recFew_calls _ _ w2 (show IsRec w2 (.agg #[.int .i64 csite, .int .i64 cseq, .slice cp cdep.length ccap, .string ckey, .string cval]) ⟨csite, cseq, cdep, ckey, cval⟩ from ⟨cp, ccap, rfl, hnc⟩)
      rw [Hfc.out] at u
      refine u.mono ?_
      rintro e w3 ⟨rfl, hb⟩
      clear u
      replace Xa := keepB Xa hb
      replace hna := hna.below hb
      replace Xb := keepB Xb hb
      replace hnb := hnb.below hb
      replace Xc := keepB Xc hb
      replace hnc := hnc.below hb
      replace hB := hB.trans (hb.mono hB.size)
      clear hb
      cases fc with
      | false =>
        clear Xa hna Xb hnb Xc hnc
        go_wp2_with fail
        go_ret
        exact ⟨rfl, hB⟩
      | true =>
        have la : adep.length ≤ 1099511627776 := by have := Hfa.out; simp [fewR] at this; omega
        have lb : bdep.length ≤ 1099511627776 := by have := Hfb.out; simp [fewR] at this; omega
        have lc : cdep.length ≤ 1099511627776 := by have := Hfc.out; simp [fewR] at this; omega
        have Ma0 := cell_at Xa 0
        have Ma1 := cell_at Xa 1
        have Ma2 := cell_at Xa 2
        have Ma3 := cell_at Xa 3
        have Ma4 := cell_at Xa 4
        simp only [List.getElem?_toArray, List.getElem?_cons_zero, List.getElem?_cons_succ] at Ma0 Ma1 Ma2 Ma3 Ma4
        have Mb0 := cell_at Xb 0
        have Mb1 := cell_at Xb 1
        have Mb2 := cell_at Xb 2
        have Mb3 := cell_at Xb 3
        have Mb4 := cell_at Xb 4
        simp only [List.getElem?_toArray, List.getElem?_cons_zero, List.getElem?_cons_succ] at Mb0 Mb1 Mb2 Mb3 Mb4
        have Mc0 := cell_at Xc 0
        have Mc1 := cell_at Xc 1
        have Mc2 := cell_at Xc 2
        have Mc3 := cell_at Xc 3
        have Mc4 := cell_at Xc 4
        simp only [List.getElem?_toArray, List.getElem?_cons_zero, List.getElem?_cons_succ] at Mc0 Mc1 Mc2 Mc3 Mc4
        have Ha := hide Xa
        have Hna := hide hna
        have Hb := hide Xb
        have Hnb := hide hnb
        have Hc := hide Xc
        have Hnc := hide hnc
        have HB := hide hB
        clear Xa hna Xb hnb Xc hnc hB
        go_wp2_with fail
        clear Ma0 Ma1 Ma2 Ma3 Ma4 Mb0 Mb1 Mb2 Mb3 Mb4 Mc0 Mc1 Mc2 Mc3 Mc4
        have Xa := Ha.out
        have hna := Hna.out
        have Xb := Hb.out
        have hnb := Hnb.out
        have Xc := Hc.out
        have hnc := Hnc.out
        have hB := HB.out
        clear Ha Hna Hb Hnb Hc Hnc HB
        have u := before_calls _ _ _ _ w3 (show IsRec w3 (.agg #[.int .i64 asite, .int .i64 aseq, .slice ap adep.length acap, .string akey, .string aval]) ⟨asite, aseq, adep, akey, aval⟩ from ⟨ap, acap, rfl, hna⟩) (show IsRec w3 (.agg #[.int .i64 bsite, .int .i64 bseq, .slice bp bdep.length bcap, .string bkey, .string bval]) ⟨bsite, bseq, bdep, bkey, bval⟩ from ⟨bp, bcap, rfl, hnb⟩)
        rw [Hsab.out] at u
        refine u.mono ?_
        rintro e w4 ⟨rfl, hb⟩
        clear u
        replace Xa := keepB Xa hb
        replace hna := hna.below hb
        replace Xb := keepB Xb hb
        replace hnb := hnb.below hb
        replace Xc := keepB Xc hb
        replace hnc := hnc.below hb
        replace hB := hB.trans (hb.mono hB.size)
        clear hb
        cases sab with
        | true =>
          have Ma0 := cell_at Xa 0
          have Ma1 := cell_at Xa 1
          have Ma2 := cell_at Xa 2
          have Ma3 := cell_at Xa 3
          have Ma4 := cell_at Xa 4
          simp only [List.getElem?_toArray, List.getElem?_cons_zero, List.getElem?_cons_succ] at Ma0 Ma1 Ma2 Ma3 Ma4
          have Mb0 := cell_at Xb 0
          have Mb1 := cell_at Xb 1
          have Mb2 := cell_at Xb 2
          have Mb3 := cell_at Xb 3
          have Mb4 := cell_at Xb 4
          simp only [List.getElem?_toArray, List.getElem?_cons_zero, List.getElem?_cons_succ] at Mb0 Mb1 Mb2 Mb3 Mb4
          have Mc0 := cell_at Xc 0
          have Mc1 := cell_at Xc 1
          have Mc2 := cell_at Xc 2
          have Mc3 := cell_at Xc 3
          have Mc4 := cell_at Xc 4
          simp only [List.getElem?_toArray, List.getElem?_cons_zero, List.getElem?_cons_succ] at Mc0 Mc1 Mc2 Mc3 Mc4
          have Ha := hide Xa
          have Hna := hide hna
          have Hb := hide Xb
          have Hnb := hide hnb
          have Hc := hide Xc
          have Hnc := hide hnc
          have HB := hide hB
          clear Xa hna Xb hnb Xc hnc hB
          go_wp2_with fail
          clear Ma0 Ma1 Ma2 Ma3 Ma4 Mb0 Mb1 Mb2 Mb3 Mb4 Mc0 Mc1 Mc2 Mc3 Mc4
          have Xa := Ha.out
          have hna := Hna.out
          have Xb := Hb.out
          have hnb := Hnb.out
          have Xc := Hc.out
          have hnc := Hnc.out
          have hB := HB.out
          clear Ha Hna Hb Hnb Hc Hnc HB
          have u := before_calls _ _ _ _ w4 (show IsRec w4 (.agg #[.int .i64 bsite, .int .i64 bseq, .slice bp bdep.length bcap, .string bkey, .string bval]) ⟨bsite, bseq, bdep, bkey, bval⟩ from ⟨bp, bcap, rfl, hnb⟩) (show IsRec w4 (.agg #[.int .i64 csite, .int .i64 cseq, .slice cp cdep.length ccap, .string ckey, .string cval]) ⟨csite, cseq, cdep, ckey, cval⟩ from ⟨cp, ccap, rfl, hnc⟩)
          rw [Hsbc.out] at u
          refine u.mono ?_
          rintro e w5 ⟨rfl, hb⟩
          clear u
          replace Xa := keepB Xa hb
          replace hna := hna.below hb
          replace Xb := keepB Xb hb
          replace hnb := hnb.below hb
          replace Xc := keepB Xc hb
          replace hnc := hnc.below hb
          replace hB := hB.trans (hb.mono hB.size)
          clear hb
          cases sbc with
          | true =>
            obtain rfl : sac = true := by rw [← Hsac.out]; exact htr.out Hsab.out Hsbc.out
            have Ma0 := cell_at Xa 0
            have Ma1 := cell_at Xa 1
            have Ma2 := cell_at Xa 2
            have Ma3 := cell_at Xa 3
            have Ma4 := cell_at Xa 4
            simp only [List.getElem?_toArray, List.getElem?_cons_zero, List.getElem?_cons_succ] at Ma0 Ma1 Ma2 Ma3 Ma4
            have Mb0 := cell_at Xb 0
            have Mb1 := cell_at Xb 1
            have Mb2 := cell_at Xb 2
            have Mb3 := cell_at Xb 3
            have Mb4 := cell_at Xb 4
            simp only [List.getElem?_toArray, List.getElem?_cons_zero, List.getElem?_cons_succ] at Mb0 Mb1 Mb2 Mb3 Mb4
            have Mc0 := cell_at Xc 0
            have Mc1 := cell_at Xc 1
            have Mc2 := cell_at Xc 2
            have Mc3 := cell_at Xc 3
            have Mc4 := cell_at Xc 4
            simp only [List.getElem?_toArray, List.getElem?_cons_zero, List.getElem?_cons_succ] at Mc0 Mc1 Mc2 Mc3 Mc4
            have Ha := hide Xa
            have Hna := hide hna
            have Hb := hide Xb
            have Hnb := hide hnb
            have Hc := hide Xc
            have Hnc := hide hnc
            have HB := hide hB
            clear Xa hna Xb hnb Xc hnc hB
            go_wp2_with fail
            clear Ma0 Ma1 Ma2 Ma3 Ma4 Mb0 Mb1 Mb2 Mb3 Mb4 Mc0 Mc1 Mc2 Mc3 Mc4
            have Xa := Ha.out
            have hna := Hna.out
            have Xb := Hb.out
            have hnb := Hnb.out
            have Xc := Hc.out
            have hnc := Hnc.out
            have hB := HB.out
            clear Ha Hna Hb Hnb Hc Hnc HB
            have u := before_calls _ _ _ _ w5 (show IsRec w5 (.agg #[.int .i64 asite, .int .i64 aseq, .slice ap adep.length acap, .string akey, .string aval]) ⟨asite, aseq, adep, akey, aval⟩ from ⟨ap, acap, rfl, hna⟩) (show IsRec w5 (.agg #[.int .i64 csite, .int .i64 cseq, .slice cp cdep.length ccap, .string ckey, .string cval]) ⟨csite, cseq, cdep, ckey, cval⟩ from ⟨cp, ccap, rfl, hnc⟩)
            rw [Hsac.out] at u
            refine u.mono ?_
            rintro e w6 ⟨rfl, hb⟩
            clear u
            replace Xa := keepB Xa hb
            replace hna := hna.below hb
            replace Xb := keepB Xb hb
            replace hnb := hnb.below hb
            replace Xc := keepB Xc hb
            replace hnc := hnc.below hb
            replace hB := hB.trans (hb.mono hB.size)
            clear hb
            have Ma0 := cell_at Xa 0
            have Ma1 := cell_at Xa 1
            have Ma2 := cell_at Xa 2
            have Ma3 := cell_at Xa 3
            have Ma4 := cell_at Xa 4
            simp only [List.getElem?_toArray, List.getElem?_cons_zero, List.getElem?_cons_succ] at Ma0 Ma1 Ma2 Ma3 Ma4
            have Mb0 := cell_at Xb 0
            have Mb1 := cell_at Xb 1
            have Mb2 := cell_at Xb 2
            have Mb3 := cell_at Xb 3
            have Mb4 := cell_at Xb 4
            simp only [List.getElem?_toArray, List.getElem?_cons_zero, List.getElem?_cons_succ] at Mb0 Mb1 Mb2 Mb3 Mb4
            have Mc0 := cell_at Xc 0
            have Mc1 := cell_at Xc 1
            have Mc2 := cell_at Xc 2
            have Mc3 := cell_at Xc 3
            have Mc4 := cell_at Xc 4
            simp only [List.getElem?_toArray, List.getElem?_cons_zero, List.getElem?_cons_succ] at Mc0 Mc1 Mc2 Mc3 Mc4
            have Ha := hide Xa
            have Hna := hide hna
            have Hb := hide Xb
            have Hnb := hide hnb
            have Hc := hide Xc
            have Hnc := hide hnc
            have HB := hide hB
            clear Xa hna Xb hnb Xc hnc hB
            go_wp2_with fail
            clear Ma0 Ma1 Ma2 Ma3 Ma4 Mb0 Mb1 Mb2 Mb3 Mb4 Mc0 Mc1 Mc2 Mc3 Mc4
            have Xa := Ha.out
            have hna := Hna.out
            have Xb := Hb.out
            have hnb := Hnb.out
            have Xc := Hc.out
            have hnc := Hnc.out
            have hB := HB.out
            clear Ha Hna Hb Hnb Hc Hnc HB
            have u := before_calls _ _ _ _ w6 (show IsRec w6 (.agg #[.int .i64 asite, .int .i64 aseq, .slice ap adep.length acap, .string akey, .string aval]) ⟨asite, aseq, adep, akey, aval⟩ from ⟨ap, acap, rfl, hna⟩) (show IsRec w6 (.agg #[.int .i64 bsite, .int .i64 bseq, .slice bp bdep.length bcap, .string bkey, .string bval]) ⟨bsite, bseq, bdep, bkey, bval⟩ from ⟨bp, bcap, rfl, hnb⟩)
            rw [Hsab.out] at u
            refine u.mono ?_
            rintro e w7 ⟨rfl, hb⟩
            clear u
            replace Xa := keepB Xa hb
            replace hna := hna.below hb
            replace Xb := keepB Xb hb
            replace hnb := hnb.below hb
            replace Xc := keepB Xc hb
            replace hnc := hnc.below hb
            replace hB := hB.trans (hb.mono hB.size)
            clear hb
            have Ma0 := cell_at Xa 0
            have Ma1 := cell_at Xa 1
            have Ma2 := cell_at Xa 2
            have Ma3 := cell_at Xa 3
            have Ma4 := cell_at Xa 4
            simp only [List.getElem?_toArray, List.getElem?_cons_zero, List.getElem?_cons_succ] at Ma0 Ma1 Ma2 Ma3 Ma4
            have Mb0 := cell_at Xb 0
            have Mb1 := cell_at Xb 1
            have Mb2 := cell_at Xb 2
            have Mb3 := cell_at Xb 3
            have Mb4 := cell_at Xb 4
            simp only [List.getElem?_toArray, List.getElem?_cons_zero, List.getElem?_cons_succ] at Mb0 Mb1 Mb2 Mb3 Mb4
            have Mc0 := cell_at Xc 0
            have Mc1 := cell_at Xc 1
            have Mc2 := cell_at Xc 2
            have Mc3 := cell_at Xc 3
            have Mc4 := cell_at Xc 4
            simp only [List.getElem?_toArray, List.getElem?_cons_zero, List.getElem?_cons_succ] at Mc0 Mc1 Mc2 Mc3 Mc4
            have Ha := hide Xa
            have Hna := hide hna
            have Hb := hide Xb
            have Hnb := hide hnb
            have Hc := hide Xc
            have Hnc := hide hnc
            have HB := hide hB
            clear Xa hna Xb hnb Xc hnc hB
            go_wp2_with fail
            clear Ma0 Ma1 Ma2 Ma3 Ma4 Mb0 Mb1 Mb2 Mb3 Mb4 Mc0 Mc1 Mc2 Mc3 Mc4
            have Xa := Ha.out
            have hna := Hna.out
            have Xb := Hb.out
            have hnb := Hnb.out
            have Xc := Hc.out
            have hnc := Hnc.out
            have hB := HB.out
            clear Ha Hna Hb Hnb Hc Hnc HB
            have u := recSame_calls _ _ _ _ w7 (show IsRec w7 (.agg #[.int .i64 asite, .int .i64 aseq, .slice ap adep.length acap, .string akey, .string aval]) ⟨asite, aseq, adep, akey, aval⟩ from ⟨ap, acap, rfl, hna⟩) (show IsRec w7 (.agg #[.int .i64 bsite, .int .i64 bseq, .slice bp bdep.length bcap, .string bkey, .string bval]) ⟨bsite, bseq, bdep, bkey, bval⟩ from ⟨bp, bcap, rfl, hnb⟩) la lb
            rw [Heab.out] at u
            refine u.mono ?_
            rintro e w8 ⟨rfl, hb⟩
            clear u
            replace Xa := keepB Xa hb
            replace hna := hna.below hb
            replace Xb := keepB Xb hb
            replace hnb := hnb.below hb
            replace Xc := keepB Xc hb
            replace hnc := hnc.below hb
            replace hB := hB.trans (hb.mono hB.size)
            clear hb
            cases eab with
            | false =>
              clear Xa hna Xb hnb Xc hnc
              go_wp2_with fail
              go_ret
              exact ⟨rfl, hB⟩
            | true =>
              have Ma0 := cell_at Xa 0
              have Ma1 := cell_at Xa 1
              have Ma2 := cell_at Xa 2
              have Ma3 := cell_at Xa 3
              have Ma4 := cell_at Xa 4
              simp only [List.getElem?_toArray, List.getElem?_cons_zero, List.getElem?_cons_succ] at Ma0 Ma1 Ma2 Ma3 Ma4
              have Mb0 := cell_at Xb 0
              have Mb1 := cell_at Xb 1
              have Mb2 := cell_at Xb 2
              have Mb3 := cell_at Xb 3
              have Mb4 := cell_at Xb 4
              simp only [List.getElem?_toArray, List.getElem?_cons_zero, List.getElem?_cons_succ] at Mb0 Mb1 Mb2 Mb3 Mb4
              have Mc0 := cell_at Xc 0
              have Mc1 := cell_at Xc 1
              have Mc2 := cell_at Xc 2
              have Mc3 := cell_at Xc 3
              have Mc4 := cell_at Xc 4
              simp only [List.getElem?_toArray, List.getElem?_cons_zero, List.getElem?_cons_succ] at Mc0 Mc1 Mc2 Mc3 Mc4
              have Ha := hide Xa
              have Hna := hide hna
              have Hb := hide Xb
              have Hnb := hide hnb
              have Hc := hide Xc
              have Hnc := hide hnc
              have HB := hide hB
              clear Xa hna Xb hnb Xc hnc hB
              go_wp2_with fail
              clear Ma0 Ma1 Ma2 Ma3 Ma4 Mb0 Mb1 Mb2 Mb3 Mb4 Mc0 Mc1 Mc2 Mc3 Mc4
              have Xa := Ha.out
              have hna := Hna.out
              have Xb := Hb.out
              have hnb := Hnb.out
              have Xc := Hc.out
              have hnc := Hnc.out
              have hB := HB.out
              clear Ha Hna Hb Hnb Hc Hnc HB
              have u := recSame_calls _ _ _ _ w8 (show IsRec w8 (.agg #[.int .i64 bsite, .int .i64 bseq, .slice bp bdep.length bcap, .string bkey, .string bval]) ⟨bsite, bseq, bdep, bkey, bval⟩ from ⟨bp, bcap, rfl, hnb⟩) (show IsRec w8 (.agg #[.int .i64 csite, .int .i64 cseq, .slice cp cdep.length ccap, .string ckey, .string cval]) ⟨csite, cseq, cdep, ckey, cval⟩ from ⟨cp, ccap, rfl, hnc⟩) lb lc
              rw [Hebc.out] at u
              refine u.mono ?_
              rintro e w9 ⟨rfl, hb⟩
              clear u
              replace Xa := keepB Xa hb
              replace hna := hna.below hb
              replace Xb := keepB Xb hb
              replace hnb := hnb.below hb
              replace Xc := keepB Xc hb
              replace hnc := hnc.below hb
              replace hB := hB.trans (hb.mono hB.size)
              clear hb
              cases ebc with
              | false =>
                clear Xa hna Xb hnb Xc hnc
                go_wp2_with fail
                go_ret
                exact ⟨rfl, hB⟩
              | true =>
                obtain rfl : eac = true := by rw [← Heac.out]; exact hst.out Heab.out Hebc.out
                have Ma0 := cell_at Xa 0
                have Ma1 := cell_at Xa 1
                have Ma2 := cell_at Xa 2
                have Ma3 := cell_at Xa 3
                have Ma4 := cell_at Xa 4
                simp only [List.getElem?_toArray, List.getElem?_cons_zero, List.getElem?_cons_succ] at Ma0 Ma1 Ma2 Ma3 Ma4
                have Mb0 := cell_at Xb 0
                have Mb1 := cell_at Xb 1
                have Mb2 := cell_at Xb 2
                have Mb3 := cell_at Xb 3
                have Mb4 := cell_at Xb 4
                simp only [List.getElem?_toArray, List.getElem?_cons_zero, List.getElem?_cons_succ] at Mb0 Mb1 Mb2 Mb3 Mb4
                have Mc0 := cell_at Xc 0
                have Mc1 := cell_at Xc 1
                have Mc2 := cell_at Xc 2
                have Mc3 := cell_at Xc 3
                have Mc4 := cell_at Xc 4
                simp only [List.getElem?_toArray, List.getElem?_cons_zero, List.getElem?_cons_succ] at Mc0 Mc1 Mc2 Mc3 Mc4
                have Ha := hide Xa
                have Hna := hide hna
                have Hb := hide Xb
                have Hnb := hide hnb
                have Hc := hide Xc
                have Hnc := hide hnc
                have HB := hide hB
                clear Xa hna Xb hnb Xc hnc hB
                go_wp2_with fail
                clear Ma0 Ma1 Ma2 Ma3 Ma4 Mb0 Mb1 Mb2 Mb3 Mb4 Mc0 Mc1 Mc2 Mc3 Mc4
                have Xa := Ha.out
                have hna := Hna.out
                have Xb := Hb.out
                have hnb := Hnb.out
                have Xc := Hc.out
                have hnc := Hnc.out
                have hB := HB.out
                clear Ha Hna Hb Hnb Hc Hnc HB
                have u := recSame_calls _ _ _ _ w9 (show IsRec w9 (.agg #[.int .i64 asite, .int .i64 aseq, .slice ap adep.length acap, .string akey, .string aval]) ⟨asite, aseq, adep, akey, aval⟩ from ⟨ap, acap, rfl, hna⟩) (show IsRec w9 (.agg #[.int .i64 csite, .int .i64 cseq, .slice cp cdep.length ccap, .string ckey, .string cval]) ⟨csite, cseq, cdep, ckey, cval⟩ from ⟨cp, ccap, rfl, hnc⟩) la lc
                rw [Heac.out] at u
                refine u.mono ?_
                rintro e w10 ⟨rfl, hb⟩
                clear u
                replace Xa := keepB Xa hb
                replace hna := hna.below hb
                replace Xb := keepB Xb hb
                replace hnb := hnb.below hb
                replace Xc := keepB Xc hb
                replace hnc := hnc.below hb
                replace hB := hB.trans (hb.mono hB.size)
                clear hb
                clear Xa hna Xb hnb Xc hnc
                go_wp2_with fail
                go_ret
                exact ⟨rfl, hB⟩
          | false =>
            have Ma0 := cell_at Xa 0
            have Ma1 := cell_at Xa 1
            have Ma2 := cell_at Xa 2
            have Ma3 := cell_at Xa 3
            have Ma4 := cell_at Xa 4
            simp only [List.getElem?_toArray, List.getElem?_cons_zero, List.getElem?_cons_succ] at Ma0 Ma1 Ma2 Ma3 Ma4
            have Mb0 := cell_at Xb 0
            have Mb1 := cell_at Xb 1
            have Mb2 := cell_at Xb 2
            have Mb3 := cell_at Xb 3
            have Mb4 := cell_at Xb 4
            simp only [List.getElem?_toArray, List.getElem?_cons_zero, List.getElem?_cons_succ] at Mb0 Mb1 Mb2 Mb3 Mb4
            have Mc0 := cell_at Xc 0
            have Mc1 := cell_at Xc 1
            have Mc2 := cell_at Xc 2
            have Mc3 := cell_at Xc 3
            have Mc4 := cell_at Xc 4
            simp only [List.getElem?_toArray, List.getElem?_cons_zero, List.getElem?_cons_succ] at Mc0 Mc1 Mc2 Mc3 Mc4
            have Ha := hide Xa
            have Hna := hide hna
            have Hb := hide Xb
            have Hnb := hide hnb
            have Hc := hide Xc
            have Hnc := hide hnc
            have HB := hide hB
            clear Xa hna Xb hnb Xc hnc hB
            go_wp2_with fail
            clear Ma0 Ma1 Ma2 Ma3 Ma4 Mb0 Mb1 Mb2 Mb3 Mb4 Mc0 Mc1 Mc2 Mc3 Mc4
            have Xa := Ha.out
            have hna := Hna.out
            have Xb := Hb.out
            have hnb := Hnb.out
            have Xc := Hc.out
            have hnc := Hnc.out
            have hB := HB.out
            clear Ha Hna Hb Hnb Hc Hnc HB
            have u := before_calls _ _ _ _ w5 (show IsRec w5 (.agg #[.int .i64 asite, .int .i64 aseq, .slice ap adep.length acap, .string akey, .string aval]) ⟨asite, aseq, adep, akey, aval⟩ from ⟨ap, acap, rfl, hna⟩) (show IsRec w5 (.agg #[.int .i64 bsite, .int .i64 bseq, .slice bp bdep.length bcap, .string bkey, .string bval]) ⟨bsite, bseq, bdep, bkey, bval⟩ from ⟨bp, bcap, rfl, hnb⟩)
            rw [Hsab.out] at u
            refine u.mono ?_
            rintro e w11 ⟨rfl, hb⟩
            clear u
            replace Xa := keepB Xa hb
            replace hna := hna.below hb
            replace Xb := keepB Xb hb
            replace hnb := hnb.below hb
            replace Xc := keepB Xc hb
            replace hnc := hnc.below hb
            replace hB := hB.trans (hb.mono hB.size)
            clear hb
            have Ma0 := cell_at Xa 0
            have Ma1 := cell_at Xa 1
            have Ma2 := cell_at Xa 2
            have Ma3 := cell_at Xa 3
            have Ma4 := cell_at Xa 4
            simp only [List.getElem?_toArray, List.getElem?_cons_zero, List.getElem?_cons_succ] at Ma0 Ma1 Ma2 Ma3 Ma4
            have Mb0 := cell_at Xb 0
            have Mb1 := cell_at Xb 1
            have Mb2 := cell_at Xb 2
            have Mb3 := cell_at Xb 3
            have Mb4 := cell_at Xb 4
            simp only [List.getElem?_toArray, List.getElem?_cons_zero, List.getElem?_cons_succ] at Mb0 Mb1 Mb2 Mb3 Mb4
            have Mc0 := cell_at Xc 0
            have Mc1 := cell_at Xc 1
            have Mc2 := cell_at Xc 2
            have Mc3 := cell_at Xc 3
            have Mc4 := cell_at Xc 4
            simp only [List.getElem?_toArray, List.getElem?_cons_zero, List.getElem?_cons_succ] at Mc0 Mc1 Mc2 Mc3 Mc4
            have Ha := hide Xa
            have Hna := hide hna
            have Hb := hide Xb
            have Hnb := hide hnb
            have Hc := hide Xc
            have Hnc := hide hnc
            have HB := hide hB
            clear Xa hna Xb hnb Xc hnc hB
            go_wp2_with fail
            clear Ma0 Ma1 Ma2 Ma3 Ma4 Mb0 Mb1 Mb2 Mb3 Mb4 Mc0 Mc1 Mc2 Mc3 Mc4
            have Xa := Ha.out
            have hna := Hna.out
            have Xb := Hb.out
            have hnb := Hnb.out
            have Xc := Hc.out
            have hnc := Hnc.out
            have hB := HB.out
            clear Ha Hna Hb Hnb Hc Hnc HB
            have u := recSame_calls _ _ _ _ w11 (show IsRec w11 (.agg #[.int .i64 asite, .int .i64 aseq, .slice ap adep.length acap, .string akey, .string aval]) ⟨asite, aseq, adep, akey, aval⟩ from ⟨ap, acap, rfl, hna⟩) (show IsRec w11 (.agg #[.int .i64 bsite, .int .i64 bseq, .slice bp bdep.length bcap, .string bkey, .string bval]) ⟨bsite, bseq, bdep, bkey, bval⟩ from ⟨bp, bcap, rfl, hnb⟩) la lb
            rw [Heab.out] at u
            refine u.mono ?_
            rintro e w12 ⟨rfl, hb⟩
            clear u
            replace Xa := keepB Xa hb
            replace hna := hna.below hb
            replace Xb := keepB Xb hb
            replace hnb := hnb.below hb
            replace Xc := keepB Xc hb
            replace hnc := hnc.below hb
            replace hB := hB.trans (hb.mono hB.size)
            clear hb
            cases eab with
            | false =>
              clear Xa hna Xb hnb Xc hnc
              go_wp2_with fail
              go_ret
              exact ⟨rfl, hB⟩
            | true =>
              have Ma0 := cell_at Xa 0
              have Ma1 := cell_at Xa 1
              have Ma2 := cell_at Xa 2
              have Ma3 := cell_at Xa 3
              have Ma4 := cell_at Xa 4
              simp only [List.getElem?_toArray, List.getElem?_cons_zero, List.getElem?_cons_succ] at Ma0 Ma1 Ma2 Ma3 Ma4
              have Mb0 := cell_at Xb 0
              have Mb1 := cell_at Xb 1
              have Mb2 := cell_at Xb 2
              have Mb3 := cell_at Xb 3
              have Mb4 := cell_at Xb 4
              simp only [List.getElem?_toArray, List.getElem?_cons_zero, List.getElem?_cons_succ] at Mb0 Mb1 Mb2 Mb3 Mb4
              have Mc0 := cell_at Xc 0
              have Mc1 := cell_at Xc 1
              have Mc2 := cell_at Xc 2
              have Mc3 := cell_at Xc 3
              have Mc4 := cell_at Xc 4
              simp only [List.getElem?_toArray, List.getElem?_cons_zero, List.getElem?_cons_succ] at Mc0 Mc1 Mc2 Mc3 Mc4
              have Ha := hide Xa
              have Hna := hide hna
              have Hb := hide Xb
              have Hnb := hide hnb
              have Hc := hide Xc
              have Hnc := hide hnc
              have HB := hide hB
              clear Xa hna Xb hnb Xc hnc hB
              go_wp2_with fail
              clear Ma0 Ma1 Ma2 Ma3 Ma4 Mb0 Mb1 Mb2 Mb3 Mb4 Mc0 Mc1 Mc2 Mc3 Mc4
              have Xa := Ha.out
              have hna := Hna.out
              have Xb := Hb.out
              have hnb := Hnb.out
              have Xc := Hc.out
              have hnc := Hnc.out
              have hB := HB.out
              clear Ha Hna Hb Hnb Hc Hnc HB
              have u := recSame_calls _ _ _ _ w12 (show IsRec w12 (.agg #[.int .i64 bsite, .int .i64 bseq, .slice bp bdep.length bcap, .string bkey, .string bval]) ⟨bsite, bseq, bdep, bkey, bval⟩ from ⟨bp, bcap, rfl, hnb⟩) (show IsRec w12 (.agg #[.int .i64 csite, .int .i64 cseq, .slice cp cdep.length ccap, .string ckey, .string cval]) ⟨csite, cseq, cdep, ckey, cval⟩ from ⟨cp, ccap, rfl, hnc⟩) lb lc
              rw [Hebc.out] at u
              refine u.mono ?_
              rintro e w13 ⟨rfl, hb⟩
              clear u
              replace Xa := keepB Xa hb
              replace hna := hna.below hb
              replace Xb := keepB Xb hb
              replace hnb := hnb.below hb
              replace Xc := keepB Xc hb
              replace hnc := hnc.below hb
              replace hB := hB.trans (hb.mono hB.size)
              clear hb
              cases ebc with
              | false =>
                clear Xa hna Xb hnb Xc hnc
                go_wp2_with fail
                go_ret
                exact ⟨rfl, hB⟩
              | true =>
                obtain rfl : eac = true := by rw [← Heac.out]; exact hst.out Heab.out Hebc.out
                have Ma0 := cell_at Xa 0
                have Ma1 := cell_at Xa 1
                have Ma2 := cell_at Xa 2
                have Ma3 := cell_at Xa 3
                have Ma4 := cell_at Xa 4
                simp only [List.getElem?_toArray, List.getElem?_cons_zero, List.getElem?_cons_succ] at Ma0 Ma1 Ma2 Ma3 Ma4
                have Mb0 := cell_at Xb 0
                have Mb1 := cell_at Xb 1
                have Mb2 := cell_at Xb 2
                have Mb3 := cell_at Xb 3
                have Mb4 := cell_at Xb 4
                simp only [List.getElem?_toArray, List.getElem?_cons_zero, List.getElem?_cons_succ] at Mb0 Mb1 Mb2 Mb3 Mb4
                have Mc0 := cell_at Xc 0
                have Mc1 := cell_at Xc 1
                have Mc2 := cell_at Xc 2
                have Mc3 := cell_at Xc 3
                have Mc4 := cell_at Xc 4
                simp only [List.getElem?_toArray, List.getElem?_cons_zero, List.getElem?_cons_succ] at Mc0 Mc1 Mc2 Mc3 Mc4
                have Ha := hide Xa
                have Hna := hide hna
                have Hb := hide Xb
                have Hnb := hide hnb
                have Hc := hide Xc
                have Hnc := hide hnc
                have HB := hide hB
                clear Xa hna Xb hnb Xc hnc hB
                go_wp2_with fail
                clear Ma0 Ma1 Ma2 Ma3 Ma4 Mb0 Mb1 Mb2 Mb3 Mb4 Mc0 Mc1 Mc2 Mc3 Mc4
                have Xa := Ha.out
                have hna := Hna.out
                have Xb := Hb.out
                have hnb := Hnb.out
                have Xc := Hc.out
                have hnc := Hnc.out
                have hB := HB.out
                clear Ha Hna Hb Hnb Hc Hnc HB
                have u := recSame_calls _ _ _ _ w13 (show IsRec w13 (.agg #[.int .i64 asite, .int .i64 aseq, .slice ap adep.length acap, .string akey, .string aval]) ⟨asite, aseq, adep, akey, aval⟩ from ⟨ap, acap, rfl, hna⟩) (show IsRec w13 (.agg #[.int .i64 csite, .int .i64 cseq, .slice cp cdep.length ccap, .string ckey, .string cval]) ⟨csite, cseq, cdep, ckey, cval⟩ from ⟨cp, ccap, rfl, hnc⟩) la lc
                rw [Heac.out] at u
                refine u.mono ?_
                rintro e w14 ⟨rfl, hb⟩
                clear u
                replace Xa := keepB Xa hb
                replace hna := hna.below hb
                replace Xb := keepB Xb hb
                replace hnb := hnb.below hb
                replace Xc := keepB Xc hb
                replace hnc := hnc.below hb
                replace hB := hB.trans (hb.mono hB.size)
                clear hb
                clear Xa hna Xb hnb Xc hnc
                go_wp2_with fail
                go_ret
                exact ⟨rfl, hB⟩
        | false =>
          have Ma0 := cell_at Xa 0
          have Ma1 := cell_at Xa 1
          have Ma2 := cell_at Xa 2
          have Ma3 := cell_at Xa 3
          have Ma4 := cell_at Xa 4
          simp only [List.getElem?_toArray, List.getElem?_cons_zero, List.getElem?_cons_succ] at Ma0 Ma1 Ma2 Ma3 Ma4
          have Mb0 := cell_at Xb 0
          have Mb1 := cell_at Xb 1
          have Mb2 := cell_at Xb 2
          have Mb3 := cell_at Xb 3
          have Mb4 := cell_at Xb 4
          simp only [List.getElem?_toArray, List.getElem?_cons_zero, List.getElem?_cons_succ] at Mb0 Mb1 Mb2 Mb3 Mb4
          have Mc0 := cell_at Xc 0
          have Mc1 := cell_at Xc 1
          have Mc2 := cell_at Xc 2
          have Mc3 := cell_at Xc 3
          have Mc4 := cell_at Xc 4
          simp only [List.getElem?_toArray, List.getElem?_cons_zero, List.getElem?_cons_succ] at Mc0 Mc1 Mc2 Mc3 Mc4
          have Ha := hide Xa
          have Hna := hide hna
          have Hb := hide Xb
          have Hnb := hide hnb
          have Hc := hide Xc
          have Hnc := hide hnc
          have HB := hide hB
          clear Xa hna Xb hnb Xc hnc hB
          go_wp2_with fail
          clear Ma0 Ma1 Ma2 Ma3 Ma4 Mb0 Mb1 Mb2 Mb3 Mb4 Mc0 Mc1 Mc2 Mc3 Mc4
          have Xa := Ha.out
          have hna := Hna.out
          have Xb := Hb.out
          have hnb := Hnb.out
          have Xc := Hc.out
          have hnc := Hnc.out
          have hB := HB.out
          clear Ha Hna Hb Hnb Hc Hnc HB
          have u := before_calls _ _ _ _ w4 (show IsRec w4 (.agg #[.int .i64 asite, .int .i64 aseq, .slice ap adep.length acap, .string akey, .string aval]) ⟨asite, aseq, adep, akey, aval⟩ from ⟨ap, acap, rfl, hna⟩) (show IsRec w4 (.agg #[.int .i64 bsite, .int .i64 bseq, .slice bp bdep.length bcap, .string bkey, .string bval]) ⟨bsite, bseq, bdep, bkey, bval⟩ from ⟨bp, bcap, rfl, hnb⟩)
          rw [Hsab.out] at u
          refine u.mono ?_
          rintro e w15 ⟨rfl, hb⟩
          clear u
          replace Xa := keepB Xa hb
          replace hna := hna.below hb
          replace Xb := keepB Xb hb
          replace hnb := hnb.below hb
          replace Xc := keepB Xc hb
          replace hnc := hnc.below hb
          replace hB := hB.trans (hb.mono hB.size)
          clear hb
          have Ma0 := cell_at Xa 0
          have Ma1 := cell_at Xa 1
          have Ma2 := cell_at Xa 2
          have Ma3 := cell_at Xa 3
          have Ma4 := cell_at Xa 4
          simp only [List.getElem?_toArray, List.getElem?_cons_zero, List.getElem?_cons_succ] at Ma0 Ma1 Ma2 Ma3 Ma4
          have Mb0 := cell_at Xb 0
          have Mb1 := cell_at Xb 1
          have Mb2 := cell_at Xb 2
          have Mb3 := cell_at Xb 3
          have Mb4 := cell_at Xb 4
          simp only [List.getElem?_toArray, List.getElem?_cons_zero, List.getElem?_cons_succ] at Mb0 Mb1 Mb2 Mb3 Mb4
          have Mc0 := cell_at Xc 0
          have Mc1 := cell_at Xc 1
          have Mc2 := cell_at Xc 2
          have Mc3 := cell_at Xc 3
          have Mc4 := cell_at Xc 4
          simp only [List.getElem?_toArray, List.getElem?_cons_zero, List.getElem?_cons_succ] at Mc0 Mc1 Mc2 Mc3 Mc4
          have Ha := hide Xa
          have Hna := hide hna
          have Hb := hide Xb
          have Hnb := hide hnb
          have Hc := hide Xc
          have Hnc := hide hnc
          have HB := hide hB
          clear Xa hna Xb hnb Xc hnc hB
          go_wp2_with fail
          clear Ma0 Ma1 Ma2 Ma3 Ma4 Mb0 Mb1 Mb2 Mb3 Mb4 Mc0 Mc1 Mc2 Mc3 Mc4
          have Xa := Ha.out
          have hna := Hna.out
          have Xb := Hb.out
          have hnb := Hnb.out
          have Xc := Hc.out
          have hnc := Hnc.out
          have hB := HB.out
          clear Ha Hna Hb Hnb Hc Hnc HB
          have u := before_calls _ _ _ _ w15 (show IsRec w15 (.agg #[.int .i64 bsite, .int .i64 bseq, .slice bp bdep.length bcap, .string bkey, .string bval]) ⟨bsite, bseq, bdep, bkey, bval⟩ from ⟨bp, bcap, rfl, hnb⟩) (show IsRec w15 (.agg #[.int .i64 asite, .int .i64 aseq, .slice ap adep.length acap, .string akey, .string aval]) ⟨asite, aseq, adep, akey, aval⟩ from ⟨ap, acap, rfl, hna⟩)
          rw [Hsba.out] at u
          refine u.mono ?_
          rintro e w16 ⟨rfl, hb⟩
          clear u
          replace Xa := keepB Xa hb
          replace hna := hna.below hb
          replace Xb := keepB Xb hb
          replace hnb := hnb.below hb
          replace Xc := keepB Xc hb
          replace hnc := hnc.below hb
          replace hB := hB.trans (hb.mono hB.size)
          clear hb
          cases sba with
          | true =>
            have Ma0 := cell_at Xa 0
            have Ma1 := cell_at Xa 1
            have Ma2 := cell_at Xa 2
            have Ma3 := cell_at Xa 3
            have Ma4 := cell_at Xa 4
            simp only [List.getElem?_toArray, List.getElem?_cons_zero, List.getElem?_cons_succ] at Ma0 Ma1 Ma2 Ma3 Ma4
            have Mb0 := cell_at Xb 0
            have Mb1 := cell_at Xb 1
            have Mb2 := cell_at Xb 2
            have Mb3 := cell_at Xb 3
            have Mb4 := cell_at Xb 4
            simp only [List.getElem?_toArray, List.getElem?_cons_zero, List.getElem?_cons_succ] at Mb0 Mb1 Mb2 Mb3 Mb4
            have Mc0 := cell_at Xc 0
            have Mc1 := cell_at Xc 1
            have Mc2 := cell_at Xc 2
            have Mc3 := cell_at Xc 3
            have Mc4 := cell_at Xc 4
            simp only [List.getElem?_toArray, List.getElem?_cons_zero, List.getElem?_cons_succ] at Mc0 Mc1 Mc2 Mc3 Mc4
            have Ha := hide Xa
            have Hna := hide hna
            have Hb := hide Xb
            have Hnb := hide hnb
            have Hc := hide Xc
            have Hnc := hide hnc
            have HB := hide hB
            clear Xa hna Xb hnb Xc hnc hB
            go_wp2_with fail
            clear Ma0 Ma1 Ma2 Ma3 Ma4 Mb0 Mb1 Mb2 Mb3 Mb4 Mc0 Mc1 Mc2 Mc3 Mc4
            have Xa := Ha.out
            have hna := Hna.out
            have Xb := Hb.out
            have hnb := Hnb.out
            have Xc := Hc.out
            have hnc := Hnc.out
            have hB := HB.out
            clear Ha Hna Hb Hnb Hc Hnc HB
            have u := recSame_calls _ _ _ _ w16 (show IsRec w16 (.agg #[.int .i64 asite, .int .i64 aseq, .slice ap adep.length acap, .string akey, .string aval]) ⟨asite, aseq, adep, akey, aval⟩ from ⟨ap, acap, rfl, hna⟩) (show IsRec w16 (.agg #[.int .i64 bsite, .int .i64 bseq, .slice bp bdep.length bcap, .string bkey, .string bval]) ⟨bsite, bseq, bdep, bkey, bval⟩ from ⟨bp, bcap, rfl, hnb⟩) la lb
            rw [Heab.out] at u
            refine u.mono ?_
            rintro e w17 ⟨rfl, hb⟩
            clear u
            replace Xa := keepB Xa hb
            replace hna := hna.below hb
            replace Xb := keepB Xb hb
            replace hnb := hnb.below hb
            replace Xc := keepB Xc hb
            replace hnc := hnc.below hb
            replace hB := hB.trans (hb.mono hB.size)
            clear hb
            cases eab with
            | false =>
              clear Xa hna Xb hnb Xc hnc
              go_wp2_with fail
              go_ret
              exact ⟨rfl, hB⟩
            | true =>
              have Ma0 := cell_at Xa 0
              have Ma1 := cell_at Xa 1
              have Ma2 := cell_at Xa 2
              have Ma3 := cell_at Xa 3
              have Ma4 := cell_at Xa 4
              simp only [List.getElem?_toArray, List.getElem?_cons_zero, List.getElem?_cons_succ] at Ma0 Ma1 Ma2 Ma3 Ma4
              have Mb0 := cell_at Xb 0
              have Mb1 := cell_at Xb 1
              have Mb2 := cell_at Xb 2
              have Mb3 := cell_at Xb 3
              have Mb4 := cell_at Xb 4
              simp only [List.getElem?_toArray, List.getElem?_cons_zero, List.getElem?_cons_succ] at Mb0 Mb1 Mb2 Mb3 Mb4
              have Mc0 := cell_at Xc 0
              have Mc1 := cell_at Xc 1
              have Mc2 := cell_at Xc 2
              have Mc3 := cell_at Xc 3
              have Mc4 := cell_at Xc 4
              simp only [List.getElem?_toArray, List.getElem?_cons_zero, List.getElem?_cons_succ] at Mc0 Mc1 Mc2 Mc3 Mc4
              have Ha := hide Xa
              have Hna := hide hna
              have Hb := hide Xb
              have Hnb := hide hnb
              have Hc := hide Xc
              have Hnc := hide hnc
              have HB := hide hB
              clear Xa hna Xb hnb Xc hnc hB
              go_wp2_with fail
              clear Ma0 Ma1 Ma2 Ma3 Ma4 Mb0 Mb1 Mb2 Mb3 Mb4 Mc0 Mc1 Mc2 Mc3 Mc4
              have Xa := Ha.out
              have hna := Hna.out
              have Xb := Hb.out
              have hnb := Hnb.out
              have Xc := Hc.out
              have hnc := Hnc.out
              have hB := HB.out
              clear Ha Hna Hb Hnb Hc Hnc HB
              have u := recSame_calls _ _ _ _ w17 (show IsRec w17 (.agg #[.int .i64 bsite, .int .i64 bseq, .slice bp bdep.length bcap, .string bkey, .string bval]) ⟨bsite, bseq, bdep, bkey, bval⟩ from ⟨bp, bcap, rfl, hnb⟩) (show IsRec w17 (.agg #[.int .i64 csite, .int .i64 cseq, .slice cp cdep.length ccap, .string ckey, .string cval]) ⟨csite, cseq, cdep, ckey, cval⟩ from ⟨cp, ccap, rfl, hnc⟩) lb lc
              rw [Hebc.out] at u
              refine u.mono ?_
              rintro e w18 ⟨rfl, hb⟩
              clear u
              replace Xa := keepB Xa hb
              replace hna := hna.below hb
              replace Xb := keepB Xb hb
              replace hnb := hnb.below hb
              replace Xc := keepB Xc hb
              replace hnc := hnc.below hb
              replace hB := hB.trans (hb.mono hB.size)
              clear hb
              cases ebc with
              | false =>
                clear Xa hna Xb hnb Xc hnc
                go_wp2_with fail
                go_ret
                exact ⟨rfl, hB⟩
              | true =>
                obtain rfl : eac = true := by rw [← Heac.out]; exact hst.out Heab.out Hebc.out
                have Ma0 := cell_at Xa 0
                have Ma1 := cell_at Xa 1
                have Ma2 := cell_at Xa 2
                have Ma3 := cell_at Xa 3
                have Ma4 := cell_at Xa 4
                simp only [List.getElem?_toArray, List.getElem?_cons_zero, List.getElem?_cons_succ] at Ma0 Ma1 Ma2 Ma3 Ma4
                have Mb0 := cell_at Xb 0
                have Mb1 := cell_at Xb 1
                have Mb2 := cell_at Xb 2
                have Mb3 := cell_at Xb 3
                have Mb4 := cell_at Xb 4
                simp only [List.getElem?_toArray, List.getElem?_cons_zero, List.getElem?_cons_succ] at Mb0 Mb1 Mb2 Mb3 Mb4
                have Mc0 := cell_at Xc 0
                have Mc1 := cell_at Xc 1
                have Mc2 := cell_at Xc 2
                have Mc3 := cell_at Xc 3
                have Mc4 := cell_at Xc 4
                simp only [List.getElem?_toArray, List.getElem?_cons_zero, List.getElem?_cons_succ] at Mc0 Mc1 Mc2 Mc3 Mc4
                have Ha := hide Xa
                have Hna := hide hna
                have Hb := hide Xb
                have Hnb := hide hnb
                have Hc := hide Xc
                have Hnc := hide hnc
                have HB := hide hB
                clear Xa hna Xb hnb Xc hnc hB
                go_wp2_with fail
                clear Ma0 Ma1 Ma2 Ma3 Ma4 Mb0 Mb1 Mb2 Mb3 Mb4 Mc0 Mc1 Mc2 Mc3 Mc4
                have Xa := Ha.out
                have hna := Hna.out
                have Xb := Hb.out
                have hnb := Hnb.out
                have Xc := Hc.out
                have hnc := Hnc.out
                have hB := HB.out
                clear Ha Hna Hb Hnb Hc Hnc HB
                have u := recSame_calls _ _ _ _ w18 (show IsRec w18 (.agg #[.int .i64 asite, .int .i64 aseq, .slice ap adep.length acap, .string akey, .string aval]) ⟨asite, aseq, adep, akey, aval⟩ from ⟨ap, acap, rfl, hna⟩) (show IsRec w18 (.agg #[.int .i64 csite, .int .i64 cseq, .slice cp cdep.length ccap, .string ckey, .string cval]) ⟨csite, cseq, cdep, ckey, cval⟩ from ⟨cp, ccap, rfl, hnc⟩) la lc
                rw [Heac.out] at u
                refine u.mono ?_
                rintro e w19 ⟨rfl, hb⟩
                clear u
                replace Xa := keepB Xa hb
                replace hna := hna.below hb
                replace Xb := keepB Xb hb
                replace hnb := hnb.below hb
                replace Xc := keepB Xc hb
                replace hnc := hnc.below hb
                replace hB := hB.trans (hb.mono hB.size)
                clear hb
                clear Xa hna Xb hnb Xc hnc
                go_wp2_with fail
                go_ret
                exact ⟨rfl, hB⟩
          | false =>
            obtain ⟨e1, e2⟩ := hto.out Hsab.out Hsba.out
            have e1' : (asite != bsite) = false := by simp [e1]
            have e2' : (aseq != bseq) = false := by simp [e2]
            clear e1 e2
            have Ma0 := cell_at Xa 0
            have Ma1 := cell_at Xa 1
            have Ma2 := cell_at Xa 2
            have Ma3 := cell_at Xa 3
            have Ma4 := cell_at Xa 4
            simp only [List.getElem?_toArray, List.getElem?_cons_zero, List.getElem?_cons_succ] at Ma0 Ma1 Ma2 Ma3 Ma4
            have Mb0 := cell_at Xb 0
            have Mb1 := cell_at Xb 1
            have Mb2 := cell_at Xb 2
            have Mb3 := cell_at Xb 3
            have Mb4 := cell_at Xb 4
            simp only [List.getElem?_toArray, List.getElem?_cons_zero, List.getElem?_cons_succ] at Mb0 Mb1 Mb2 Mb3 Mb4
            have Mc0 := cell_at Xc 0
            have Mc1 := cell_at Xc 1
            have Mc2 := cell_at Xc 2
            have Mc3 := cell_at Xc 3
            have Mc4 := cell_at Xc 4
            simp only [List.getElem?_toArray, List.getElem?_cons_zero, List.getElem?_cons_succ] at Mc0 Mc1 Mc2 Mc3 Mc4
            have Ha := hide Xa
            have Hna := hide hna
            have Hb := hide Xb
            have Hnb := hide hnb
            have Hc := hide Xc
            have Hnc := hide hnc
            have HB := hide hB
            clear Xa hna Xb hnb Xc hnc hB
            go_wp2_with fail
            clear Ma0 Ma1 Ma2 Ma3 Ma4 Mb0 Mb1 Mb2 Mb3 Mb4 Mc0 Mc1 Mc2 Mc3 Mc4
            have Xa := Ha.out
            have hna := Hna.out
            have Xb := Hb.out
            have hnb := Hnb.out
            have Xc := Hc.out
            have hnc := Hnc.out
            have hB := HB.out
            clear Ha Hna Hb Hnb Hc Hnc HB
            have u := recSame_calls _ _ _ _ w16 (show IsRec w16 (.agg #[.int .i64 asite, .int .i64 aseq, .slice ap adep.length acap, .string akey, .string aval]) ⟨asite, aseq, adep, akey, aval⟩ from ⟨ap, acap, rfl, hna⟩) (show IsRec w16 (.agg #[.int .i64 bsite, .int .i64 bseq, .slice bp bdep.length bcap, .string bkey, .string bval]) ⟨bsite, bseq, bdep, bkey, bval⟩ from ⟨bp, bcap, rfl, hnb⟩) la lb
            rw [Heab.out] at u
            refine u.mono ?_
            rintro e w20 ⟨rfl, hb⟩
            clear u
            replace Xa := keepB Xa hb
            replace hna := hna.below hb
            replace Xb := keepB Xb hb
            replace hnb := hnb.below hb
            replace Xc := keepB Xc hb
            replace hnc := hnc.below hb
            replace hB := hB.trans (hb.mono hB.size)
            clear hb
            cases eab with
            | false =>
              clear Xa hna Xb hnb Xc hnc
              go_wp2_with fail
              go_ret
              exact ⟨rfl, hB⟩
            | true =>
              have Ma0 := cell_at Xa 0
              have Ma1 := cell_at Xa 1
              have Ma2 := cell_at Xa 2
              have Ma3 := cell_at Xa 3
              have Ma4 := cell_at Xa 4
              simp only [List.getElem?_toArray, List.getElem?_cons_zero, List.getElem?_cons_succ] at Ma0 Ma1 Ma2 Ma3 Ma4
              have Mb0 := cell_at Xb 0
              have Mb1 := cell_at Xb 1
              have Mb2 := cell_at Xb 2
              have Mb3 := cell_at Xb 3
              have Mb4 := cell_at Xb 4
              simp only [List.getElem?_toArray, List.getElem?_cons_zero, List.getElem?_cons_succ] at Mb0 Mb1 Mb2 Mb3 Mb4
              have Mc0 := cell_at Xc 0
              have Mc1 := cell_at Xc 1
              have Mc2 := cell_at Xc 2
              have Mc3 := cell_at Xc 3
              have Mc4 := cell_at Xc 4
              simp only [List.getElem?_toArray, List.getElem?_cons_zero, List.getElem?_cons_succ] at Mc0 Mc1 Mc2 Mc3 Mc4
              have Ha := hide Xa
              have Hna := hide hna
              have Hb := hide Xb
              have Hnb := hide hnb
              have Hc := hide Xc
              have Hnc := hide hnc
              have HB := hide hB
              clear Xa hna Xb hnb Xc hnc hB
              go_wp2_with fail
              clear Ma0 Ma1 Ma2 Ma3 Ma4 Mb0 Mb1 Mb2 Mb3 Mb4 Mc0 Mc1 Mc2 Mc3 Mc4
              have Xa := Ha.out
              have hna := Hna.out
              have Xb := Hb.out
              have hnb := Hnb.out
              have Xc := Hc.out
              have hnc := Hnc.out
              have hB := HB.out
              clear Ha Hna Hb Hnb Hc Hnc HB
              have u := recSame_calls _ _ _ _ w20 (show IsRec w20 (.agg #[.int .i64 bsite, .int .i64 bseq, .slice bp bdep.length bcap, .string bkey, .string bval]) ⟨bsite, bseq, bdep, bkey, bval⟩ from ⟨bp, bcap, rfl, hnb⟩) (show IsRec w20 (.agg #[.int .i64 csite, .int .i64 cseq, .slice cp cdep.length ccap, .string ckey, .string cval]) ⟨csite, cseq, cdep, ckey, cval⟩ from ⟨cp, ccap, rfl, hnc⟩) lb lc
              rw [Hebc.out] at u
              refine u.mono ?_
              rintro e w21 ⟨rfl, hb⟩
              clear u
              replace Xa := keepB Xa hb
              replace hna := hna.below hb
              replace Xb := keepB Xb hb
              replace hnb := hnb.below hb
              replace Xc := keepB Xc hb
              replace hnc := hnc.below hb
              replace hB := hB.trans (hb.mono hB.size)
              clear hb
              cases ebc with
              | false =>
                clear Xa hna Xb hnb Xc hnc
                go_wp2_with fail
                go_ret
                exact ⟨rfl, hB⟩
              | true =>
                obtain rfl : eac = true := by rw [← Heac.out]; exact hst.out Heab.out Hebc.out
                have Ma0 := cell_at Xa 0
                have Ma1 := cell_at Xa 1
                have Ma2 := cell_at Xa 2
                have Ma3 := cell_at Xa 3
                have Ma4 := cell_at Xa 4
                simp only [List.getElem?_toArray, List.getElem?_cons_zero, List.getElem?_cons_succ] at Ma0 Ma1 Ma2 Ma3 Ma4
                have Mb0 := cell_at Xb 0
                have Mb1 := cell_at Xb 1
                have Mb2 := cell_at Xb 2
                have Mb3 := cell_at Xb 3
                have Mb4 := cell_at Xb 4
                simp only [List.getElem?_toArray, List.getElem?_cons_zero, List.getElem?_cons_succ] at Mb0 Mb1 Mb2 Mb3 Mb4
                have Mc0 := cell_at Xc 0
                have Mc1 := cell_at Xc 1
                have Mc2 := cell_at Xc 2
                have Mc3 := cell_at Xc 3
                have Mc4 := cell_at Xc 4
                simp only [List.getElem?_toArray, List.getElem?_cons_zero, List.getElem?_cons_succ] at Mc0 Mc1 Mc2 Mc3 Mc4
                have Ha := hide Xa
                have Hna := hide hna
                have Hb := hide Xb
                have Hnb := hide hnb
                have Hc := hide Xc
                have Hnc := hide hnc
                have HB := hide hB
                clear Xa hna Xb hnb Xc hnc hB
                go_wp2_with fail
                clear Ma0 Ma1 Ma2 Ma3 Ma4 Mb0 Mb1 Mb2 Mb3 Mb4 Mc0 Mc1 Mc2 Mc3 Mc4
                have Xa := Ha.out
                have hna := Hna.out
                have Xb := Hb.out
                have hnb := Hnb.out
                have Xc := Hc.out
                have hnc := Hnc.out
                have hB := HB.out
                clear Ha Hna Hb Hnb Hc Hnc HB
                have u := recSame_calls _ _ _ _ w21 (show IsRec w21 (.agg #[.int .i64 asite, .int .i64 aseq, .slice ap adep.length acap, .string akey, .string aval]) ⟨asite, aseq, adep, akey, aval⟩ from ⟨ap, acap, rfl, hna⟩) (show IsRec w21 (.agg #[.int .i64 csite, .int .i64 cseq, .slice cp cdep.length ccap, .string ckey, .string cval]) ⟨csite, cseq, cdep, ckey, cval⟩ from ⟨cp, ccap, rfl, hnc⟩) la lc
                rw [Heac.out] at u
                refine u.mono ?_
                rintro e w22 ⟨rfl, hb⟩
                clear u
                replace Xa := keepB Xa hb
                replace hna := hna.below hb
                replace Xb := keepB Xb hb
                replace hnb := hnb.below hb
                replace Xc := keepB Xc hb
                replace hnc := hnc.below hb
                replace hB := hB.trans (hb.mono hB.size)
                clear hb
                clear Xa hna Xb hnb Xc hnc
                go_wp2_with fail
                go_ret
                exact ⟨rfl, hB⟩

end Go.Proofs.YtepadjcmmkglfacDoor
