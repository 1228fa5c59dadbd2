/- The walk of the law VecBack. Own work; no statement. -/
import Derived.Test.YtepadjcmmkglfaaDoorWords
import Derived.Test.YtepadjcmmkglfaaDoorFrame
import Derived.OpenShut
set_option linter.unusedSimpArgs false
set_option linter.unusedVariables false
namespace Go.Proofs.YtepadjcmmkglfaaDoor
open Go.RowKit Go.Shelf

set_option maxRecDepth 100000 in
set_option maxHeartbeats 4000000 in
theorem vecBack_main (va : Value) (a : List Int) (w : World) (ha : IsNums .u32 w va a) (wa : ∀ n ∈ a, (Lit.int .u32 n).wf = true) (hp : Pow w) :
    Calls Tryd.prog 7 #[va] w fun e w' => e = .returned (.bool true) ∧ Below w.heap.size w w' := by
  obtain ⟨i0, hi, hz0, hz1, hz2⟩ := info_parts Tryd.info3
  have ra := hide (show ∀ x ∈ a, 0 ≤ x ∧ x < 4294967296 from fun x hx => by have := bounds_u32 (wa x hx); omega)
  replace hp := hide hp
  clear wa
  by_cases h1 : (8 : Int) < (a.length : Int)
  · obtain ⟨pa, capa, rfl, -, -⟩ := id ha
    go_enter Tryd.func7, Tryd.ntmps7
    go_wp2_with fail
    refine (known_calls _ hp.out).mono ?_
    rintro e w1 ⟨rfl, hB⟩
    go_wp2_with fail
    go_ret
    exact ⟨rfl, hB⟩
  · have la : a.length ≤ 8 := by omega
    obtain ⟨l, hl⟩ : ∃ l, l = a.map (· % 1048577) := ⟨_, rfl⟩
    have hll : l.length = a.length := by rw [hl]; simp
    have hS : InS l := by
      intro x hx
      rw [hl] at hx
      obtain ⟨y, -, rfl⟩ := List.mem_map.1 hx
      omega
    have hget : ∀ k, k < a.length → l.getD k 0 = a.getD k 0 % 1048577 := by
      intro k hk
      rw [hl, getD_in _ k (by simpa using hk), getD_in a k hk]
      simp
    have hR : InR l := fun x hx => by have := hS x hx; omega
    replace hget := hide hget
    replace hS := hide hS
    replace hR := hide hR
    replace ha := hide ha
    clear hl
    obtain ⟨pa, capa, rfl, -, -⟩ := id ha.out
    go_enter Tryd.func7, Tryd.ntmps7
    go_wp2_with fail
    refine (known_calls _ hp.out).mono ?_
    rintro e w1 ⟨rfl, hB⟩
    replace ha := hide (ha.out.below hB)
    replace hp := hide (hp.out.below hB)
    go_wp2_with fail
    go_loopw [3, 4] (fun v i wr => ∃ k : Nat, i = .int .i64 (k : Int) ∧ k ≤ a.length ∧ wr.ownsRow w1.heap.size 3 1 v k ((l.take k).map (Value.int .i64)) ∧ Below w1.heap.size w1 wr) (fun _ i _ => a.length - (intOf i).toNat)
    case atStart => exact ⟨0, rfl, Nat.zero_le _, World.ownsRow_nil _ _ _ _, Below.refl _ _⟩
    case round =>
      obtain ⟨k, rfl, hkn, hown, hB1⟩ := hrel
      have hbs := hB1.size
      by_cases hk : k < a.length
      · have hlt : (k : Int) < (a.length : Int) := by omega
        rcases ha.out.cases with ⟨rfl, -, -, -⟩ | ⟨b, o, cap, hsl, -, hcap, hb, hcell⟩
        · simp at hk
        · cases hsl
          have hcl : wr.cell? ⟨b, o + k, none⟩ = _ := (hB1.cell (p := ⟨b, o + k, none⟩) hb).trans (hcell k hk)
          have ht := hide (take_snoc_getD l k (by omega))
          have hg := hget.out k hk
          have hx : 0 ≤ a.getD k 0 ∧ a.getD k 0 < 4294967296 := ra.out _ (getD_mem a k hk)
          clear hcell
          generalize a.getD k 0 = x at hcl hg hx
          generalize l.getD k 0 = y at hg ht
          obtain ⟨hx0, hx1⟩ := hx
          subst hg
          go_wp2_with (at_builtin; refine wpList_append_own _ rfl _ _ 28 rfl w1.heap.size 3 i0 (.int .i64 0) 1 8 Tryd.underlying28 hi hz0 hz1 hz2 rfl (by decide) _ _ _ rfl (hown.alloc _) ⟨wr.heap.size, 0, none⟩ 1 1 [.int .i64 (x % 1048577)] rfl rfl (cell_one_new _ _ _) (by intro u hu; simp at hu; subst hu; rfl) (by unfold maxLen; omega) (by omega) (by simp; omega) ?_; intro v' w2 hown' hgrow _)
          have hB2 : Below w1.heap.size w1 w2 := (hB1.alloc hB1.size _).grown hgrow (by simp; omega) (fun j hj => (hown.lt j hj).1)
          refine ⟨⟨k + 1, by go_num, by omega, ?_, hB2⟩, by simp [intOf]; omega⟩
          rw [ht.out, List.map_append]
          exact hown'
      · have e : l.take k = l := List.take_of_length_le (by omega)
        rw [e] at hown
        have hx := hide (IsNums.of_row hown)
        clear hown
        replace hp := hide (hp.out.below hB1)
        replace hB := hB.trans (hB1.mono hB.size)
        clear hB1 e
        go_wp2_with fail
        refine (text_calls _ l _ hx.out (by omega) hR.out hp.out).mono ?_
        rintro e w2 ⟨rfl, hB1⟩
        replace hx := hide (hx.out.below hB1)
        replace hB := hB.trans (hB1.mono hB.size)
        clear hB1 hp
        go_wp2_with fail
        refine (parse_calls _ _ ?_).mono ?_
        · rw [Lib.size_eq]
          have := numsTo_length hR.out (writtenL l)
          have := writtenL_le l
          simp [textL]
          omega
        rintro e w3 ⟨vw, rfl, hw, hB1⟩
        rw [parse_text l hS.out (by omega)] at hw
        have e2 : (parseL (⟨(textL l).toArray⟩ : ByteArray).data.toList).2 = 0 := by rw [show (⟨(textL l).toArray⟩ : ByteArray).data.toList = textL l from rfl, parse_text l hS.out (by omega)]
        rw [e2]
        replace hw := hide hw
        replace hx := hide (hx.out.below hB1)
        replace hB := hB.trans (hB1.mono hB.size)
        clear hB1 e2
        have hwl := writtenL_le l
        go_wp2_with fail
        refine (same_calls _ _ l _ _ hx.out hw.out (by omega) (by simp; omega)).mono ?_
        rintro e w' ⟨rfl, rfl⟩
        rw [same_written]
        go_wp2_with fail
        refine (check_calls _ l 8 _ hx.out (by omega)).mono ?_
        rintro e w' ⟨rfl, rfl⟩
        rw [check_ok l hS.out (by omega)]
        go_wp2_with fail
        refine (check_calls _ _ 8 _ hw.out (by simp; omega)).mono ?_
        rintro e w' ⟨rfl, rfl⟩
        rw [check_ok _ (inS_take l hS.out _) (by rw [List.length_take]; omega)]
        go_wp2_with fail
        go_ret
        exact ⟨rfl, hB⟩

end Go.Proofs.YtepadjcmmkglfaaDoor
