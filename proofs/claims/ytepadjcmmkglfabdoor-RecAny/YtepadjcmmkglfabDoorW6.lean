/- The walk of the laws' up: numbers as a vector. Own work; no statement. -/
import Derived.Test.YtepadjcmmkglfabDoorW5
set_option linter.unusedSimpArgs false
set_option linter.unusedVariables false
namespace Go.Proofs.YtepadjcmmkglfabDoor
open Go.RowKit

theorem wrap64_small (x : Int) (h0 : 0 ≤ x) (h1 : x < 4294967296) : wrap64 x = x := by unfold wrap64; omega

set_option maxHeartbeats 1000000 in
theorem up_calls (v : Value) (l : List Int) (w : World) (hv : IsNums .u16 w v l) (hl : l.length ≤ 1099511627776) (hr : ∀ x ∈ l, 0 ≤ x ∧ x < 65536) :
    Calls Tryd.prog 11 #[v] w fun e w' => ∃ v', e = .returned v' ∧ IsNums .i64 w' v' l ∧ Below w.heap.size w w' := by
  obtain ⟨i0, hi, hz0, hz1, hz2⟩ := info_parts Tryd.info3
  rcases hv.cases with ⟨rfl, a1, cap, rfl⟩ | ⟨b, o, cap, rfl, -, hcap, hb, hcell⟩
  · go_enter Tryd.func11, Tryd.ntmps11
    go_wp2
    refine wp_loop_rounds 1 ?_
    rw [rounds_succ]
    go_wp2
    go_ret
    exact ⟨_, rfl, IsNums.nil _ _ _ _, Below.refl _ _⟩
  · have Hcell := hide hcell
    have Hr := hide hr
    clear hcell hv hr
    go_enter Tryd.func11, Tryd.ntmps11
    go_wp2
    go_loopw [3, 4] (fun v i wr => ∃ k : Nat, i = .int .i64 (k : Int) ∧ k ≤ l.length ∧ wr.ownsRow w.heap.size 3 1 v k ((l.take k).map (Value.int .i64)) ∧ Below w.heap.size w wr) (fun _ i _ => l.length - (intOf i).toNat)
    case atStart => exact ⟨0, rfl, Nat.zero_le _, World.ownsRow_nil _ _ _ _, Below.refl _ _⟩
    case round =>
      obtain ⟨k, rfl, hkn, hown, hB⟩ := hrel
      by_cases hk : k < l.length
      · have hlt : (k : Int) < (l.length : Int) := by omega
        have hcl : wr.cell? ⟨b, o + k, none⟩ = _ := (hB.cell (p := ⟨b, o + k, none⟩) hb).trans (Hcell.out k hk)
        have ht := hide (take_snoc_getD l k hk)
        have hx : 0 ≤ l.getD k 0 ∧ l.getD k 0 < 65536 := Hr.out _ (by rw [List.getD, List.getElem?_eq_getElem hk]; exact List.getElem_mem hk)
        generalize l.getD k 0 = x at hcl ht hx
        obtain ⟨hx0, hx1⟩ := hx
        have hw : wrap64 x = x := wrap64_small x hx0 (by omega)
        have hbs := hB.size
        go_wp2_with (at_builtin; refine wpList_append_own _ rfl _ _ 24 rfl w.heap.size 3 i0 (.int .i64 0) 1 8 Tryd.underlying24 hi hz0 hz1 hz2 rfl (by decide) _ _ _ rfl (hown.alloc _) ⟨wr.heap.size, 0, none⟩ 1 1 [.int .i64 x] rfl rfl (cell_one_new _ _ _) (by intro u hu; simp at hu; subst hu; rfl) (by unfold maxLen; omega) (by omega) (by simp; omega) ?_; intro v' w1 hown' hgrow _)
        have hB1 : Below w.heap.size w w1 := (hB.alloc hB.size _).grown hgrow (by simp; omega) (fun j hj => (hown.lt j hj).1)
        refine ⟨⟨k + 1, by go_num, by omega, ?_, hB1⟩, by simp [intOf]; omega⟩
        rw [ht.out, List.map_append]
        exact hown'
      · go_wp2
        go_ret
        have e : l.take k = l := List.take_of_length_le (by omega)
        rw [e] at hown
        exact ⟨_, rfl, IsNums.of_row hown, hB⟩

end Go.Proofs.YtepadjcmmkglfabDoor
