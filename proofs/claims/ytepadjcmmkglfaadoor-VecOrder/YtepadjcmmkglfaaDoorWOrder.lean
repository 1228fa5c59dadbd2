/- The walk of the law VecOrder. Own work; no statement. -/
import Derived.Test.YtepadjcmmkglfaaDoorPlain
import Derived.OpenShut
set_option linter.unusedSimpArgs false
set_option linter.unusedVariables false
namespace Go.Proofs.YtepadjcmmkglfaaDoor
open Go.RowKit Go.Shelf

theorem cov_three (c1 c2 c3 : Bool) (h : c1 = true → c2 = true → c3 = true) : (c1 = true ∧ c2 = true ∧ c3 = true) ∨ (c1 = true ∧ c2 = false) ∨ c1 = false := by
  cases c1 <;> cases c2 <;> simp_all

set_option maxRecDepth 100000 in
set_option maxHeartbeats 4000000 in
theorem vecOrder_walk (va vb vc : Value) (a b c : List Int) (w : World) (ha : IsNums .u16 w va a) (hb : IsNums .u16 w vb b) (hc : IsNums .u16 w vc c) (ra : InB 65535 a) (rb : InB 65535 b) (rc : InB 65535 c) (hp : Pow w) :
    Calls Tryd.prog 6 #[va, vb, vc] w fun e w' => e = .returned (.bool true) ∧ Below w.heap.size w w' := by
  obtain ⟨pa, capa, rfl, -, -⟩ := id ha
  obtain ⟨pb, capb, rfl, -, -⟩ := id hb
  obtain ⟨pc, capc, rfl, -, -⟩ := id hc
  replace ha := hide ha
  replace hb := hide hb
  replace hc := hide hc
  replace ra := hide ra
  replace rb := hide rb
  replace rc := hide rc
  replace hp := hide hp
  by_cases h8 : a.length ≤ 8 ∧ b.length ≤ 8 ∧ c.length ≤ 8
  case neg =>
    by_cases h1 : (8 : Int) < (a.length : Int)
    · clear h8
      go_enter Tryd.func6, Tryd.ntmps6
      go_wp2_with fail
      refine (known_calls _ hp.out).mono ?_
      rintro e w1 ⟨rfl, hB⟩
      go_wp2_with fail
      go_ret
      exact ⟨rfl, hB⟩
    · by_cases h2 : (8 : Int) < (b.length : Int)
      · clear h8
        go_enter Tryd.func6, Tryd.ntmps6
        go_wp2_with fail
        refine (known_calls _ hp.out).mono ?_
        rintro e w1 ⟨rfl, hB⟩
        go_wp2_with fail
        go_ret
        exact ⟨rfl, hB⟩
      · have h3 : (8 : Int) < (c.length : Int) := by omega
        clear h8
        go_enter Tryd.func6, Tryd.ntmps6
        go_wp2_with fail
        refine (known_calls _ hp.out).mono ?_
        rintro e w1 ⟨rfl, hB⟩
        go_wp2_with fail
        go_ret
        exact ⟨rfl, hB⟩
  case pos =>
    have h1 : ¬ (8 : Int) < (a.length : Int) := by omega
    have h2 : ¬ (8 : Int) < (b.length : Int) := by omega
    have h3 : ¬ (8 : Int) < (c.length : Int) := by omega
    obtain ⟨la, lb, lc⟩ := h8
    go_enter Tryd.func6, Tryd.ntmps6
    go_wp2_with fail
    refine (known_calls _ hp.out).mono ?_
    rintro e w1 ⟨rfl, hB⟩
    clear hp
    replace ha := hide (ha.out.below hB)
    replace hb := hide (hb.out.below hB)
    replace hc := hide (hc.out.below hB)
    go_wp2_with fail
    refine (up_calls _ a _ ha.out (by omega) (fun x hx => by have := ra.out x hx; omega)).mono ?_
    rintro e w2 ⟨vx, rfl, hx, hB1⟩
    replace hb := hide (hb.out.below hB1)
    replace hc := hide (hc.out.below hB1)
    replace hx := hide hx
    replace hB := hB.trans (hB1.mono hB.size)
    clear hB1 ha
    go_wp2_with fail
    refine (up_calls _ b _ hb.out (by omega) (fun x hx => by have := rb.out x hx; omega)).mono ?_
    rintro e w3 ⟨vy, rfl, hy, hB1⟩
    replace hc := hide (hc.out.below hB1)
    replace hx := hide (hx.out.below hB1)
    replace hy := hide hy
    replace hB := hB.trans (hB1.mono hB.size)
    clear hB1 hb
    go_wp2_with fail
    refine (up_calls _ c _ hc.out (by omega) (fun x hx => by have := rc.out x hx; omega)).mono ?_
    rintro e w4 ⟨vz, rfl, hz, hB1⟩
    replace hx := hide (hx.out.below hB1)
    replace hy := hide (hy.out.below hB1)
    replace hz := hide hz
    replace hB := hB.trans (hB1.mono hB.size)
    clear hB1 hc
    go_wp2_with fail
    have lJ := bySiteL_length max a b
    have lM := bySiteL_length min a b
    have rJ := hide (ra.out.join rb.out (by omega))
    have rM := hide (ra.out.meet rb.out (by omega))
    have sJM := hide (sum_join_meet a b)
    have q1 := cov_join_l a b
    have q2 := cov_join_r a b
    have q3 := cov_meet_l a b
    have q4 := cov_meet_r a b
    have q5 := cov_three (everyB covB c a) (everyB covB c b) (everyB covB c (bySiteL max a b)) cov_lub
    have q6 := cov_three (everyB covB a c) (everyB covB b c) (everyB covB (bySiteL min a b) c) cov_glb
    have q7 := hide (join_assoc a b c)
    have q8 := same_cov a b
    have kJ := hide (rJ.out.sum)
    have kM := hide (rM.out.sum)
    have ka := hide (ra.out.sum)
    have kb := hide (rb.out.sum)
    refine (join_calls _ _ a b _ hx.out hy.out (by omega) (by omega)).mono ?_
    rintro e w5 ⟨vj, rfl, hj, hB1⟩
    replace hx := hide (hx.out.below hB1)
    replace hy := hide (hy.out.below hB1)
    replace hz := hide (hz.out.below hB1)
    replace hj := hide hj
    replace hB := hB.trans (hB1.mono hB.size)
    clear hB1
    go_wp2_with fail
    refine (meet_calls _ _ a b _ hx.out hy.out (by omega) (by omega)).mono ?_
    rintro e w6 ⟨vm, rfl, hm, hB1⟩
    replace hx := hide (hx.out.below hB1)
    replace hy := hide (hy.out.below hB1)
    replace hz := hide (hz.out.below hB1)
    replace hj := hide (hj.out.below hB1)
    replace hm := hide hm
    replace hB := hB.trans (hB1.mono hB.size)
    clear hB1
    generalize hJ : bySiteL max a b = J at *
    generalize hM : bySiteL min a b = M at *
    replace hJ := hide hJ
    replace hM := hide hM
    have lJ' : J.length ≤ 8 := by omega
    have lM' : M.length ≤ 8 := by omega
    replace q5 := hide q5
    replace q6 := hide q6
    replace q8 := hide q8
    clear lJ lM
    go_wp2_with fail
    refine (covers_calls _ _ J a _ hj.out hx.out (by omega) (by omega)).mono ?_
    rintro e w' ⟨rfl, rfl⟩
    rw [q1]
    go_wp2_with fail
    refine (covers_calls _ _ J b _ hj.out hy.out (by omega) (by omega)).mono ?_
    rintro e w' ⟨rfl, rfl⟩
    rw [q2]
    go_wp2_with fail
    refine (covers_calls _ _ a M _ hx.out hm.out (by omega) (by omega)).mono ?_
    rintro e w' ⟨rfl, rfl⟩
    rw [q3]
    go_wp2_with fail
    refine (covers_calls _ _ b M _ hy.out hm.out (by omega) (by omega)).mono ?_
    rintro e w' ⟨rfl, rfl⟩
    rw [q4]
    go_wp2_with fail
    have e1 : J.sum + M.sum = a.sum + b.sum := sJM.out
    have b1 : 0 ≤ J.sum ∧ J.sum ≤ 65535 * 8 := by have := kJ.out; omega
    have b2 : 0 ≤ M.sum ∧ M.sum ≤ 65535 * 8 := by have := kM.out; omega
    have b3 : 0 ≤ a.sum ∧ a.sum ≤ 65535 * 8 := by have := ka.out; omega
    have b4 : 0 ≤ b.sum ∧ b.sum ≤ 65535 * 8 := by have := kb.out; omega
    have e2 : (J.sum + M.sum != a.sum + b.sum) = false := by simp [e1]
    clear e1
    obtain ⟨b1a, b1b⟩ := b1
    obtain ⟨b2a, b2b⟩ := b2
    obtain ⟨b3a, b3b⟩ := b3
    obtain ⟨b4a, b4b⟩ := b4
    refine (sum_calls _ J _ hj.out (by omega) (fun x hx => by have := rJ.out x hx; omega)).mono ?_
    rintro e w7 ⟨rfl, hB1⟩
    replace hx := hide (hx.out.below hB1)
    replace hy := hide (hy.out.below hB1)
    replace hz := hide (hz.out.below hB1)
    replace hj := hide (hj.out.below hB1)
    replace hm := hide (hm.out.below hB1)
    replace hB := hB.trans (hB1.mono hB.size)
    clear hB1
    go_wp2_with fail
    refine (sum_calls _ M _ hm.out (by omega) (fun x hx => by have := rM.out x hx; omega)).mono ?_
    rintro e w8 ⟨rfl, hB1⟩
    replace hx := hide (hx.out.below hB1)
    replace hy := hide (hy.out.below hB1)
    replace hz := hide (hz.out.below hB1)
    replace hj := hide (hj.out.below hB1)
    replace hm := hide (hm.out.below hB1)
    replace hB := hB.trans (hB1.mono hB.size)
    clear hB1
    go_wp2_with fail
    refine (sum_calls _ a _ hx.out (by omega) (fun x hx => by have := ra.out x hx; omega)).mono ?_
    rintro e w9 ⟨rfl, hB1⟩
    replace hx := hide (hx.out.below hB1)
    replace hy := hide (hy.out.below hB1)
    replace hz := hide (hz.out.below hB1)
    replace hj := hide (hj.out.below hB1)
    replace hm := hide (hm.out.below hB1)
    replace hB := hB.trans (hB1.mono hB.size)
    clear hB1
    go_wp2_with fail
    refine (sum_calls _ b _ hy.out (by omega) (fun x hx => by have := rb.out x hx; omega)).mono ?_
    rintro e w10 ⟨rfl, hB1⟩
    replace hx := hide (hx.out.below hB1)
    replace hy := hide (hy.out.below hB1)
    replace hz := hide (hz.out.below hB1)
    replace hj := hide (hj.out.below hB1)
    replace hm := hide (hm.out.below hB1)
    replace hB := hB.trans (hB1.mono hB.size)
    clear hB1
    go_wp2_with fail
    clear e2 b1a b1b b2a b2b b3a b3b b4a b4b q1 q2 q3 q4
    rcases q5.out with ⟨c1, c2, c3⟩ | ⟨c1, c2⟩ | c1 <;> rcases q6.out with ⟨c4, c5, c6⟩ | ⟨c4, c5⟩ | c4
    all_goals
      have gx := hx.out
      have gy := hy.out
      have gz := hz.out
      have gj := hj.out
      have gm := hm.out
      go_wp2_with (go_at_call 20; refine (covers_calls _ _ _ _ _ (by assumption) (by assumption) (by omega) (by omega)).mono ?_; rintro e w' ⟨rfl, rfl⟩)
      clear gx gy gz gj gm
      have lK := bySiteL_length max b c
      refine (join_calls _ _ b c _ hy.out hz.out (by omega) (by omega)).mono ?_
      rintro e w11 ⟨v1, rfl, g1, hB1⟩
      replace hx := hide (hx.out.below hB1)
      replace hy := hide (hy.out.below hB1)
      replace hz := hide (hz.out.below hB1)
      replace g1 := hide g1
      replace hB := hB.trans (hB1.mono hB.size)
      clear hB1
      generalize hK : bySiteL max b c = K at *
      replace hK := hide hK
      have lK' : K.length ≤ 8 := by omega
      clear lK
      go_wp2_with fail
      refine (join_calls _ _ a K _ hx.out g1.out (by omega) (by omega)).mono ?_
      rintro e w12 ⟨v2, rfl, g2, hB1⟩
      replace hx := hide (hx.out.below hB1)
      replace hy := hide (hy.out.below hB1)
      replace hz := hide (hz.out.below hB1)
      replace g2 := hide g2
      replace hB := hB.trans (hB1.mono hB.size)
      clear hB1
      go_wp2_with fail
      refine (join_calls _ _ a b _ hx.out hy.out (by omega) (by omega)).mono ?_
      rintro e w13 ⟨v3, rfl, g3, hB1⟩
      rw [hJ.out] at g3
      replace hx := hide (hx.out.below hB1)
      replace hy := hide (hy.out.below hB1)
      replace hz := hide (hz.out.below hB1)
      replace g2 := hide (g2.out.below hB1)
      replace g3 := hide g3
      replace hB := hB.trans (hB1.mono hB.size)
      clear hB1
      go_wp2_with fail
      refine (join_calls _ _ J c _ g3.out hz.out (by omega) (by omega)).mono ?_
      rintro e w14 ⟨v4, rfl, g4, hB1⟩
      replace hx := hide (hx.out.below hB1)
      replace hy := hide (hy.out.below hB1)
      replace hz := hide (hz.out.below hB1)
      replace g2 := hide (g2.out.below hB1)
      replace g4 := hide g4
      replace hB := hB.trans (hB1.mono hB.size)
      clear hB1
      go_wp2_with fail
      have l1 := bySiteL_length max a K
      have l2 := bySiteL_length max J c
      refine (same_calls _ _ _ _ _ g2.out g4.out (by omega) (by omega)).mono ?_
      rintro e w15 ⟨rfl, rfl⟩
      rw [q7.out]
      clear l1 l2
      have gx := hx.out
      have gy := hy.out
      have q9 := q8.out
      cases d1 : everyB covB a b <;> cases d2 : everyB covB b a
      all_goals
        rw [d1, d2] at q9
        simp only [Bool.and_true, Bool.and_false, Bool.false_and, Bool.true_and] at q9
        go_wp2_with (first | (go_at_call 22; refine (same_calls _ _ _ _ _ (by assumption) (by assumption) (by omega) (by omega)).mono ?_; rintro e w' ⟨rfl, rfl⟩) | (go_at_call 20; refine (covers_calls _ _ _ _ _ (by assumption) (by assumption) (by omega) (by omega)).mono ?_; rintro e w' ⟨rfl, rfl⟩))
        go_ret
        exact ⟨rfl, hB⟩

theorem wf_u16 {l : List Int} (h : ∀ n ∈ l, (Lit.int .u16 n).wf = true) : InB 65535 l := fun x hx => bounds_u16 (h x hx)

theorem vecOrder_main (va : Value) (a : List Int) (vb : Value) (b : List Int) (vc : Value) (c : List Int) (w : World) (ha : IsNums .u16 w va a) (wa : ∀ n ∈ a, (Lit.int .u16 n).wf = true) (hb : IsNums .u16 w vb b) (wb : ∀ n ∈ b, (Lit.int .u16 n).wf = true)
    (hc : IsNums .u16 w vc c) (wc : ∀ n ∈ c, (Lit.int .u16 n).wf = true) (hp : Pow w) : Calls Tryd.prog 6 #[va, vb, vc] w fun e w' => e = .returned (.bool true) ∧ Below w.heap.size w w' :=
  vecOrder_walk va vb vc a b c w ha hb hc (wf_u16 wa) (wf_u16 wb) (wf_u16 wc) hp

end Go.Proofs.YtepadjcmmkglfaaDoor
