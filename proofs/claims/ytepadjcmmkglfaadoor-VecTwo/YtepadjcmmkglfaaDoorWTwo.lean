/- The walk of the law VecTwo. Own work; no statement. -/
import Derived.Test.YtepadjcmmkglfaaDoorRefC
import Derived.Test.YtepadjcmmkglfaaDoorWPuts
import Derived.Test.YtepadjcmmkglfaaDoorFrame
import Derived.OpenShut
set_option linter.unusedSimpArgs false
set_option linter.unusedVariables false
namespace Go.Proofs.YtepadjcmmkglfaaDoor
open Go.RowKit Go.Shelf

set_option maxRecDepth 100000 in
set_option maxHeartbeats 4000000 in
theorem vecTwo_main (va : Value) (a : List Int) (vb : Value) (b : List Int) (i n : Int) (w : World) (ha : IsNums .i64 w va a) (wa : ∀ n ∈ a, (Lit.int .i64 n).wf = true) (hb : IsNums .i64 w vb b) (wb : ∀ n ∈ b, (Lit.int .i64 n).wf = true) (wi : (Lit.int .i64 i).wf = true) (wn : (Lit.int .i64 n).wf = true) (hp : Pow w) :
    Calls Tryd.prog 3 #[va, vb, .int .i64 i, .int .i64 n] w fun e w' => e = .returned (.bool true) ∧ Below w.heap.size w w' := by
  have ra := hide (show InR a from fun x hx => by have := bounds_i64 (wa x hx); omega)
  replace ha := hide ha
  replace hb := hide hb
  replace hp := hide hp
  clear wa wb wi wn
  go_enter Tryd.func3, Tryd.ntmps3
  go_wp2_with fail
  refine (known_calls _ hp.out).mono ?_
  rintro e w1 ⟨rfl, hB⟩
  replace ha := hide (ha.out.below hB)
  replace hb := hide (hb.out.below hB)
  replace hp := hide (hp.out.below hB)
  go_wp2_with fail
  refine (few_calls _ a _ ha.out).mono ?_
  rintro e w' ⟨rfl, rfl⟩
  by_cases la : a.length ≤ 70
  · rw [decide_eq_true la]
    go_wp2_with fail
    refine (few_calls _ b _ hb.out).mono ?_
    rintro e w' ⟨rfl, rfl⟩
    by_cases lb : b.length ≤ 70
    · rw [decide_eq_true lb]
      go_wp2_with fail
      refine (get_calls _ a i _ ha.out (by omega)).mono ?_
      rintro e w' ⟨rfl, rfl⟩
      go_wp2_with fail
      refine (refGet_calls _ a i _ ha.out (by omega)).mono ?_
      rintro e w' ⟨rfl, rfl⟩
      go_wp2_with fail
      refine (with_calls _ a i n _ ha.out (by omega)).mono ?_
      rintro e w' ⟨v1, rfl, h1, hB1⟩
      replace h1 := hide h1
      replace ha := hide (ha.out.below hB1)
      replace hb := hide (hb.out.below hB1)
      replace hp := hide (hp.out.below hB1)
      replace hB := hB.trans (hB1.mono hB.size)
      clear hB1
      go_wp2_with fail
      refine (refWith_calls _ a i n _ ha.out (by omega)).mono ?_
      rintro e w' ⟨u1, rfl, g1, hB1⟩
      replace g1 := hide g1
      replace ha := hide (ha.out.below hB1)
      replace hb := hide (hb.out.below hB1)
      replace hp := hide (hp.out.below hB1)
      replace h1 := hide (h1.out.below hB1)
      replace hB := hB.trans (hB1.mono hB.size)
      clear hB1
      go_wp2_with fail
      refine (ints_calls _ _ _ _ _ h1.out g1.out (by have := withL_length a i n; omega) (by have := withL_length a i n; omega)).mono ?_
      rintro e w' ⟨rfl, nd1, rfl⟩
      rw [decide_eq_true rfl]
      replace ha := hide (ha.out.below (below_draws nd1))
      replace hb := hide (hb.out.below (below_draws nd1))
      replace hp := hide (hp.out.below (below_draws nd1))
      replace hB := hB.trans (below_draws nd1)
      clear h1 g1
      go_wp2_with fail
      refine (join_calls _ _ a b _ ha.out hb.out (by omega) (by omega)).mono ?_
      rintro e w' ⟨v2, rfl, h2, hB1⟩
      replace h2 := hide h2
      replace ha := hide (ha.out.below hB1)
      replace hb := hide (hb.out.below hB1)
      replace hp := hide (hp.out.below hB1)
      replace hB := hB.trans (hB1.mono hB.size)
      clear hB1
      go_wp2_with fail
      refine (refJoin_calls _ _ a b _ ha.out hb.out (by omega) (by omega)).mono ?_
      rintro e w' ⟨u2, rfl, g2, hB1⟩
      replace g2 := hide g2
      replace ha := hide (ha.out.below hB1)
      replace hb := hide (hb.out.below hB1)
      replace hp := hide (hp.out.below hB1)
      replace h2 := hide (h2.out.below hB1)
      replace hB := hB.trans (hB1.mono hB.size)
      clear hB1
      go_wp2_with fail
      refine (ints_calls _ _ _ _ _ h2.out g2.out (by rw [bySiteL_length]; omega) (by rw [bySiteL_length]; omega)).mono ?_
      rintro e w' ⟨rfl, nd2, rfl⟩
      rw [decide_eq_true rfl]
      replace ha := hide (ha.out.below (below_draws nd2))
      replace hb := hide (hb.out.below (below_draws nd2))
      replace hp := hide (hp.out.below (below_draws nd2))
      replace hB := hB.trans (below_draws nd2)
      clear h2 g2
      go_wp2_with fail
      refine (meet_calls _ _ a b _ ha.out hb.out (by omega) (by omega)).mono ?_
      rintro e w' ⟨v3, rfl, h3, hB1⟩
      replace h3 := hide h3
      replace ha := hide (ha.out.below hB1)
      replace hb := hide (hb.out.below hB1)
      replace hp := hide (hp.out.below hB1)
      replace hB := hB.trans (hB1.mono hB.size)
      clear hB1
      go_wp2_with fail
      refine (refMeet_calls _ _ a b _ ha.out hb.out (by omega) (by omega)).mono ?_
      rintro e w' ⟨u3, rfl, g3, hB1⟩
      replace g3 := hide g3
      replace ha := hide (ha.out.below hB1)
      replace hb := hide (hb.out.below hB1)
      replace hp := hide (hp.out.below hB1)
      replace h3 := hide (h3.out.below hB1)
      replace hB := hB.trans (hB1.mono hB.size)
      clear hB1
      go_wp2_with fail
      refine (ints_calls _ _ _ _ _ h3.out g3.out (by rw [bySiteL_length]; omega) (by rw [bySiteL_length]; omega)).mono ?_
      rintro e w' ⟨rfl, nd3, rfl⟩
      rw [decide_eq_true rfl]
      replace ha := hide (ha.out.below (below_draws nd3))
      replace hb := hide (hb.out.below (below_draws nd3))
      replace hp := hide (hp.out.below (below_draws nd3))
      replace hB := hB.trans (below_draws nd3)
      clear h3 g3
      go_wp2_with fail
      refine (covers_calls _ _ a b _ ha.out hb.out (by omega) (by omega)).mono ?_
      rintro e w' ⟨rfl, rfl⟩
      go_wp2_with fail
      refine (refCovers_calls _ _ a b _ ha.out hb.out (by omega) (by omega)).mono ?_
      rintro e w' ⟨rfl, rfl⟩
      go_wp2_with fail
      refine (same_calls _ _ a b _ ha.out hb.out (by omega) (by omega)).mono ?_
      rintro e w' ⟨rfl, rfl⟩
      go_wp2_with fail
      refine (refSame_calls _ _ a b _ ha.out hb.out (by omega) (by omega)).mono ?_
      rintro e w' ⟨rfl, rfl⟩
      go_wp2_with fail
      refine (check_calls _ a n _ ha.out (by omega)).mono ?_
      rintro e w' ⟨rfl, rfl⟩
      go_wp2_with fail
      refine (refCheck_calls _ a n _ ha.out (by omega)).mono ?_
      rintro e w' ⟨rfl, rfl⟩
      go_wp2_with fail
      refine (text_calls _ a _ ha.out (by omega) ra.out hp.out).mono ?_
      rintro e w' ⟨rfl, hB1⟩
      replace ha := hide (ha.out.below hB1)
      replace hb := hide (hb.out.below hB1)
      replace hp := hide (hp.out.below hB1)
      replace hB := hB.trans (hB1.mono hB.size)
      clear hB1
      go_wp2_with fail
      refine (refText_calls _ a _ ha.out (by omega) ra.out).mono ?_
      rintro e w' ⟨rfl, hB1⟩
      replace ha := hide (ha.out.below hB1)
      replace hb := hide (hb.out.below hB1)
      replace hp := hide (hp.out.below hB1)
      replace hB := hB.trans (hB1.mono hB.size)
      clear hB1
      generalize textL a = T
      go_wp2_with fail
      go_ret
      exact ⟨rfl, hB⟩
    · rw [decide_eq_false lb]
      go_wp2_with fail
      go_ret
      exact ⟨rfl, hB⟩
  · rw [decide_eq_false la]
    go_wp2_with fail
    go_ret
    exact ⟨rfl, hB⟩

end Go.Proofs.YtepadjcmmkglfaaDoor
