/- The walk of the law VecWords. Own work; no statement. -/
import Derived.Test.YtepadjcmmkglfaaDoorRefF
import Derived.Test.YtepadjcmmkglfaaDoorWPuts
import Derived.Test.YtepadjcmmkglfaaDoorFrame
import Derived.OpenShut
set_option linter.unusedSimpArgs false
set_option linter.unusedVariables false
namespace Go.Proofs.YtepadjcmmkglfaaDoor
open Go.RowKit Go.Shelf

theorem parse_len (l : List UInt8) : (parseL l).1.length ≤ 8 := by
  unfold parseL parseN
  split
  · split
    · simp
    · split
      · split
        · simp
        · split
          · simp
          · exact stOf_len _
      · simp
  · simp
theorem parse_inS (l : List UInt8) : InS (parseL l).1 := by
  unfold parseL
  split
  · split
    · intro x hx; cases hx
    · rw [parseN_ref _ (splitL_ne _)]
      unfold refN
      split
      · rename_i hall
        split
        · intro x hx; cases hx
        · split
          · intro x hx; cases hx
          · split
            · rename_i hle
              intro y hy
              obtain ⟨x, hx, rfl⟩ := List.mem_map.1 hy
              exact ⟨dec_nonneg (List.all_eq_true.1 hall x hx), of_decide_eq_true (List.all_eq_true.1 hle x hx)⟩
            · intro x hx; cases hx
      · intro x hx; cases hx
  · intro x hx; cases hx

set_option maxRecDepth 100000 in
set_option maxHeartbeats 4000000 in
theorem vecWords_main (s : ByteArray) (w : World) (hs : s.size ≤ maxLen) (hp : Pow w) :
    Calls Tryd.prog 4 #[.string s] w fun e w' => e = .returned (.bool true) ∧ Below w.heap.size w w' := by
  replace hp := hide hp
  by_cases h3 : 300 < (s.size : Int)
  · go_enter Tryd.func4, Tryd.ntmps4
    go_wp2_with fail
    refine (known_calls _ hp.out).mono ?_
    rintro e w1 ⟨rfl, hB⟩
    go_wp2_with fail
    go_ret
    exact ⟨rfl, hB⟩
  · have hl := parse_len s.data.toList
    have hS := hide (parse_inS s.data.toList)
    have hT := hide (text_parse (s := s.data.toList))
    have hc1 := hide (fun w => parse_calls s w (by omega))
    have hc2 := hide (fun w => refParse_calls s w (by omega))
    generalize parseL s.data.toList = P at *
    obtain ⟨L, f⟩ := P
    dsimp only at *
    go_enter Tryd.func4, Tryd.ntmps4
    go_wp2_with fail
    refine (known_calls _ hp.out).mono ?_
    rintro e w1 ⟨rfl, hB⟩
    replace hp := hide (hp.out.below hB)
    go_wp2_with fail
    refine (hc1.out _).mono ?_
    rintro e w2 ⟨v1, rfl, g1, hB1⟩
    replace g1 := hide g1
    replace hp := hide (hp.out.below hB1)
    replace hB := hB.trans (hB1.mono hB.size)
    clear hB1
    go_wp2_with fail
    refine (hc2.out _).mono ?_
    rintro e w3 ⟨v2, rfl, g2, hB1⟩
    replace g1 := hide (g1.out.below hB1)
    replace g2 := hide g2
    replace hp := hide (hp.out.below hB1)
    replace hB := hB.trans (hB1.mono hB.size)
    clear hB1 hc1 hc2
    go_wp2_with fail
    refine (refSame_calls _ _ L L _ g1.out g2.out (by omega) (by omega)).mono ?_
    rintro e w' ⟨rfl, rfl⟩
    rw [same_refl]
    by_cases hf : f = 0
    · have hf1 : (f != 0) = false := by simp [hf]
      have ht := hT.out hf
      have hR : InR L := fun x hx => by have := hS.out x hx; omega
      replace hf := hide hf
      go_wp2_with fail
      refine (text_calls _ L _ g1.out (by omega) hR hp.out).mono ?_
      rintro e w4 ⟨rfl, hB1⟩
      rw [ht, show (⟨s.data.toList.toArray⟩ : ByteArray) = s from ByteArray.ext (by simp)]
      replace hB := hB.trans (hB1.mono hB.size)
      clear hB1 ht
      go_wp2_with fail
      go_ret
      exact ⟨rfl, hB⟩
    · have hf1 : (f != 0) = true := by simp [hf]
      replace hf := hide hf
      go_wp2_with fail
      go_ret
      exact ⟨rfl, hB⟩

end Go.Proofs.YtepadjcmmkglfaaDoor
