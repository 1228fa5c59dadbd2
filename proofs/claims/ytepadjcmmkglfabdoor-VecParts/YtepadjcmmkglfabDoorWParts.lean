/- The walk of the law VecParts. Own work; no statement. -/
import Derived.Test.YtepadjcmmkglfabDoorPlain
import Derived.Test.YtepadjcmmkglfabDoorFrame
import Derived.OpenShut
import Derived.Deep.QuietTactic
import Derived.BigQuiet
set_option linter.unusedSimpArgs false
set_option linter.unusedVariables false
namespace Go.Proofs.YtepadjcmmkglfabDoor
open Go.RowKit Go.Shelf

theorem pairsTo_mem (l : List Int) : ∀ k p, p ∈ pairsTo l k → ∃ m : Nat, m < k ∧ p = ((m : Int), l.getD m 0) ∧ l.getD m 0 ≠ 0
  | 0, p, h => by simp [pairsTo] at h
  | k + 1, p, h => by
    simp only [pairsTo] at h
    rcases List.mem_append.1 h with h | h
    · obtain ⟨m, h1, h2⟩ := pairsTo_mem l k p h
      exact ⟨m, by omega, h2⟩
    · by_cases h0 : l.getD k 0 = 0
      · rw [if_pos h0] at h; simp at h
      · rw [if_neg h0, List.mem_singleton] at h
        exact ⟨k, by omega, h, h0⟩
theorem pairsTo_sum (l : List Int) : ∀ k, ((pairsTo l k).map (·.2)).sum = sumTo (fun i => l.getD i 0) k
  | 0 => by simp [pairsTo, sumTo]
  | k + 1 => by
    simp only [pairsTo, sumTo, List.map_append, List.sum_append]
    rw [pairsTo_sum l k]
    split
    · rename_i h; rw [h]; simp
    · simp
/-- What x has more than y, over the first n sites. -/
def moreTo (x y : List Int) (n : Nat) : Int := sumTo (fun i => max (x.getD i 0 - y.getD i 0) 0) n
theorem moreTo_bound (x y : List Int) (hx : InB 65535 x) (hy : InB 65535 y) : ∀ n, 0 ≤ moreTo x y n ∧ moreTo x y n ≤ 65535 * n
  | 0 => by simp [moreTo, sumTo]
  | n + 1 => by
    have ih := moreTo_bound x y hx hy n
    have h1 := hx.get (by omega) n
    have h2 := hy.get (by omega) n
    simp only [moreTo, sumTo] at ih ⊢
    omega
theorem sum_more (x y : List Int) (hx : x.length ≤ 8) (hy : y.length ≤ 8) : (bySiteL max x y).sum = y.sum + moreTo x y 8 := by
  rw [sum_eq (bySiteL max x y) 8 (by rw [bySiteL_length]; omega), sum_eq y 8 hy, moreTo, sumTo_add]
  exact sumTo_congr (fun i => by rw [join_get]; omega) _
theorem map_getD {α : Type} (f : α → Int) (l : List α) (k : Nat) (h : k < l.length) : (l.map f).getD k 0 = f l[k] := by
  rw [getD_in _ k (by simpa using h)]; simp
theorem take_sum_snoc (l : List Int) (k : Nat) (h : k < l.length) : (l.take (k + 1)).sum = (l.take k).sum + l.getD k 0 := by
  rw [take_snoc_getD l k h, List.sum_append]; simp

set_option maxRecDepth 100000 in
set_option maxHeartbeats 4000000 in
theorem vecParts_main (va : Value) (a : List Int) (vb : Value) (b : List Int) (w : World) (ha : IsNums .u16 w va a) (wa : ∀ n ∈ a, (Lit.int .u16 n).wf = true) (hb : IsNums .u16 w vb b) (wb : ∀ n ∈ b, (Lit.int .u16 n).wf = true) (hp : Pow w) :
    Calls Tryd.prog 4 #[va, vb] w fun e w' => e = .returned (.bool true) ∧ Below w.heap.size w w' := by
  have ra := hide (show InB 65535 a from fun x hx => bounds_u16 (wa x hx))
  have rb := hide (show InB 65535 b from fun x hx => bounds_u16 (wb x hx))
  obtain ⟨pa, capa, rfl, -, -⟩ := id ha
  obtain ⟨pb, capb, rfl, -, -⟩ := id hb
  replace ha := hide ha
  replace hb := hide hb
  replace hp := hide hp
  clear wa wb
  by_cases h1 : (8 : Int) < (a.length : Int)
  · go_enter Tryd.func4, Tryd.ntmps4
    go_wp2_with fail
    refine (known_calls _ hp.out).mono ?_
    rintro e w1 ⟨rfl, hB⟩
    go_wp2_with fail
    go_ret
    exact ⟨rfl, hB⟩
  · by_cases h2 : (8 : Int) < (b.length : Int)
    · go_enter Tryd.func4, Tryd.ntmps4
      go_wp2_with fail
      refine (known_calls _ hp.out).mono ?_
      rintro e w1 ⟨rfl, hB⟩
      go_wp2_with fail
      go_ret
      exact ⟨rfl, hB⟩
    · have la : a.length ≤ 8 := by omega
      have lb : b.length ≤ 8 := by omega
      go_enter Tryd.func4, Tryd.ntmps4
      go_wp2_with fail
      refine (known_calls _ hp.out).mono ?_
      rintro e w1 ⟨rfl, hB⟩
      replace ha := hide (ha.out.below hB)
      replace hb := hide (hb.out.below hB)
      go_wp2_with fail
      refine (up_calls _ a _ ha.out (by omega) (fun x hx => by have := ra.out x hx; omega)).mono ?_
      rintro e w2 ⟨vx, rfl, hx, hB1⟩
      replace hb := hide (hb.out.below hB1)
      replace hx := hide hx
      replace hB := hB.trans (hB1.mono hB.size)
      clear hB1 ha
      go_wp2_with fail
      refine (up_calls _ b _ hb.out (by omega) (fun x hx => by have := rb.out x hx; omega)).mono ?_
      rintro e w3 ⟨vy, rfl, hy, hB1⟩
      replace hx := hide (hx.out.below hB1)
      replace hy := hide hy
      replace hB := hB.trans (hB1.mono hB.size)
      clear hB1 hb
      go_wp2_with fail
      refine (join_calls _ _ a b _ hx.out hy.out (by omega) (by omega)).mono ?_
      rintro e w4 ⟨vj, rfl, hj, hB1⟩
      replace hx := hide (hx.out.below hB1)
      replace hy := hide (hy.out.below hB1)
      replace hj := hide hj
      replace hB := hB.trans (hB1.mono hB.size)
      clear hB1
      have lj : (bySiteL max a b).length ≤ 8 := by rw [bySiteL_length]; omega
      have rj := hide (ra.out.join rb.out (by omega))
      have sj := hide (sum_more a b la lb)
      have hmb := hide (moreTo_bound a b ra.out rb.out)
      generalize hJ : bySiteL max a b = J at *
      clear hJ
      go_wp2_with fail
      go_loop [8, 9] (fun nv i => ∃ k : Nat, i = .int .i64 (k : Int) ∧ k ≤ 8 ∧ nv = .int .i64 (moreTo a b k)) (fun _ i => 8 - (intOf i).toNat)
      case atStart => exact ⟨0, rfl, by omega, rfl⟩
      case round =>
        obtain ⟨k, rfl, hk, rfl⟩ := hrel
        have m1 := hmb.out k
        by_cases hk8 : k < 8
        · have hkI : (k : Int) < 8 := by omega
          have g1 := ra.out.get (by omega) k
          have g2 := rb.out.get (by omega) k
          have hm : moreTo a b (k + 1) = moreTo a b k + max (a.getD k 0 - b.getD k 0) 0 := rfl
          rw [← geti_nat] at g1 g2
          rw [← geti_nat, ← geti_nat] at hm
          obtain ⟨ga, ea⟩ : ∃ ga, geti a k = ga := ⟨_, rfl⟩
          obtain ⟨gb, eb⟩ : ∃ gb, geti b k = gb := ⟨_, rfl⟩
          rw [ea] at g1 hm
          rw [eb] at g2 hm
          replace ea := hide ea
          replace eb := hide eb
          generalize moreTo a b k = m at *
          replace hm := hide hm
          obtain ⟨g10, g11⟩ := g1
          obtain ⟨g20, g21⟩ := g2
          obtain ⟨m10, m11⟩ := m1
          by_cases hgt : gb < ga
          · go_wp2_with (first | (go_at_call_of 13 vx; refine (get_calls _ a _ _ hx.out (by omega)).mono ?_; rintro e w' ⟨rfl, rfl⟩; rw [ea.out]) | (go_at_call_of 13 vy; refine (get_calls _ b _ _ hy.out (by omega)).mono ?_; rintro e w' ⟨rfl, rfl⟩; rw [eb.out]))
            exact ⟨⟨k + 1, by go_num, by omega, by rw [hm.out]; congr 1; omega⟩, by simp [intOf]; omega⟩
          · go_wp2_with (first | (go_at_call_of 13 vx; refine (get_calls _ a _ _ hx.out (by omega)).mono ?_; rintro e w' ⟨rfl, rfl⟩; rw [ea.out]) | (go_at_call_of 13 vy; refine (get_calls _ b _ _ hy.out (by omega)).mono ?_; rintro e w' ⟨rfl, rfl⟩; rw [eb.out]))
            exact ⟨⟨k + 1, by go_num, by omega, by rw [hm.out]; congr 1; omega⟩, by simp [intOf]; omega⟩
        · have hkI : ¬ (k : Int) < 8 := by omega
          obtain rfl : k = 8 := by omega
          obtain ⟨m10, m11⟩ := m1
          have sj' := sj.out
          generalize moreTo a b 8 = m at *
          go_wp2_with fail
          refine (all_calls _ J _ hj.out (by omega)).mono ?_
          rintro e w5 ⟨Bs, g, rfl, hAll, -, -, hB1⟩
          replace hy := hide (hy.out.below hB1)
          replace hj := hide (hj.out.below hB1)
          replace hB := hB.trans (hB1.mono hB.size)
          clear hB1 hx
          go_wp2_with fail
          refine (pairs_calls Bs g J 20 _ hAll (by omega) (by omega)).mono ?_
          rintro e w6 ⟨vat, vv, rfl, hat, hvv, hB1⟩
          replace hy := hide (hy.out.below hB1)
          replace hj := hide (hj.out.below hB1)
          replace hB := hB.trans (hB1.mono hB.size)
          clear hB1 hAll
          have hPm := hide (pairsTo_mem J J.length)
          have hPl := pairsTo_length J J.length
          have hPs : ((pairsTo J J.length).map (·.2)).sum = J.sum := by rw [pairsTo_sum, sum_eq J J.length (Nat.le_refl _)]
          have hPb := hide (show InB 65535 ((pairsTo J J.length).map (·.2)) from fun x hx => by
            obtain ⟨p, hp, rfl⟩ := List.mem_map.1 hx
            obtain ⟨m, -, rfl, -⟩ := hPm.out p hp
            exact rj.out.get (by omega) m)
          have hPd := hide (show ∀ k, k < (pairsTo J J.length).length → ∃ m : Nat, ((pairsTo J J.length).map (·.1)).getD k 0 = (m : Int) ∧ ((pairsTo J J.length).map (·.2)).getD k 0 = geti J m ∧ geti J m ≠ 0 from fun k hk => by
            obtain ⟨m, -, e, h0⟩ := hPm.out _ (List.getElem_mem hk)
            refine ⟨m, by rw [map_getD _ _ k hk, e], by rw [map_getD _ _ k hk, e, geti_nat], by rw [geti_nat]; exact h0⟩)
          have hlA : ((pairsTo J J.length).map (·.1)).length = (pairsTo J J.length).length := by simp
          have hlV : ((pairsTo J J.length).map (·.2)).length = (pairsTo J J.length).length := by simp
          generalize hPA : (pairsTo J J.length).map (·.1) = A at *
          generalize hPV : (pairsTo J J.length).map (·.2) = V at *
          generalize (pairsTo J J.length).length = np at *
          clear hPA hPV hPm
          obtain ⟨pat, cat, rfl, -, -⟩ := id hat
          obtain ⟨pv, cv, rfl, -, -⟩ := id hvv
          replace hat := hide hat
          replace hvv := hide hvv
          rw [hlV]
          rw [hlA]
          rw [hlA] at hat
          rw [hlV] at hvv
          go_wp2_with fail
          go_loopw [13, 14] (fun s i wr => ∃ k : Nat, i = .int .i64 (k : Int) ∧ k ≤ np ∧ s = .int .i64 (V.take k).sum ∧ Below w6.heap.size w6 wr) (fun _ i _ => np - (intOf i).toNat)
          case atStart => exact ⟨0, rfl, by omega, by simp, Below.refl _ _⟩
          case round =>
            obtain ⟨k, rfl, hk, rfl, hB2⟩ := hrel
            replace hat := hide (hat.out.below hB2)
            replace hvv := hide (hvv.out.below hB2)
            replace hj := hide (hj.out.below hB2)
            replace hy := hide (hy.out.below hB2)
            have hsb := InB.sum (show InB 65535 (V.take k) from fun x hx => hPb.out x (List.mem_of_mem_take hx))
            have htl : (V.take k).length ≤ 8 := by rw [List.length_take]; omega
            obtain ⟨sb0, sb1⟩ := hsb
            by_cases hkn : k < np
            · have hkI : (k : Int) < (np : Int) := by omega
              obtain ⟨q, q1, q2, q3⟩ := hPd.out k hkn
              have hsn := hide (take_sum_snoc V k (by omega))
              have hyb := hPb.out _ (getD_mem V k (by omega))
              rcases hat.out.cases with ⟨rfl, -, -, -⟩ | ⟨ba, oa, capa', hsl, -, hcap, hba, hcell⟩
              · simp at hlA; omega
              rcases hvv.out.cases with ⟨rfl, -, -, -⟩ | ⟨bv, ov, capv', hsl2, -, hcap2, hbv, hcell2⟩
              · simp at hlV; omega
              obtain rfl : pat = some ⟨ba, oa, none⟩ := by injection hsl
              obtain rfl : pv = some ⟨bv, ov, none⟩ := by injection hsl2
              have c1 : wr.cell? ⟨ba, oa + k, none⟩ = _ := hcell k (by omega)
              have c2 : wr.cell? ⟨bv, ov + k, none⟩ = _ := hcell2 k (by omega)
              rw [q1] at c1
              clear hcell hcell2 hsl hsl2
              generalize V.getD k 0 = y at *
              have e1 : (geti J q != y) = false := by simp [q2]
              have e2 : (y == 0) = false := by simp [q2, q3]
              clear q1 q2 q3
              generalize (V.take k).sum = s at *
              obtain ⟨y0, y1⟩ := hyb
              go_wp2_with fail
              go_quiet (first | (go_at_call 13; refine Calls.quiet_of_same (get_calls _ J _ _ (hj.out.below (below_draws _)) (by omega))))
              go_wp2_with fail
              exact ⟨⟨k + 1, by go_num, by omega, by rw [hsn.out], hB2.trans (below_draws _)⟩, by simp [intOf]; omega⟩
            · obtain rfl : k = np := by omega
              replace hB := hB.trans (hB2.mono hB.size)
              clear hB2
              have et : (V.take k).sum = J.sum := by rw [List.take_of_length_le (by omega)]; exact hPs
              rw [et] at sb0 sb1 ⊢
              have hbs := rb.out.sum
              obtain ⟨b0, b1⟩ := hbs
              go_wp2_with fail
              refine (sum_calls _ J _ hj.out (by omega) (fun x hx => by have := rj.out x hx; omega)).mono ?_
              rintro e w7 ⟨rfl, hB1⟩
              replace hy := hide (hy.out.below hB1)
              replace hj := hide (hj.out.below hB1)
              replace hB := hB.trans (hB1.mono hB.size)
              clear hB1
              go_wp2_with fail
              refine (sum_calls _ J _ hj.out (by omega) (fun x hx => by have := rj.out x hx; omega)).mono ?_
              rintro e w8 ⟨rfl, hB1⟩
              replace hy := hide (hy.out.below hB1)
              replace hB := hB.trans (hB1.mono hB.size)
              clear hB1
              go_wp2_with fail
              refine (sum_calls _ b _ hy.out (by omega) (fun x hx => by have := rb.out x hx; omega)).mono ?_
              rintro e w9 ⟨rfl, hB1⟩
              replace hB := hB.trans (hB1.mono hB.size)
              clear hB1
              have e3 : (J.sum == b.sum + m) = true := by simp [sj']
              go_wp2_with fail
              go_ret
              exact ⟨rfl, hB⟩

end Go.Proofs.YtepadjcmmkglfabDoor
