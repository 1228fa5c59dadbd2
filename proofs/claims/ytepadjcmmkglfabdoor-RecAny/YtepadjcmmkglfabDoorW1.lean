/- The walks of the small functions of vec: each call by its contract. Own work; no statement. -/
import Derived.Test.YtepadjcmmkglfabDoorBase
import Derived.Laws.CopyOwn
import Derived.Deep.QuietTactic
import Derived.BigQuiet
set_option linter.unusedSimpArgs false
set_option linter.unusedVariables false
namespace Go.Proofs.YtepadjcmmkglfabDoor
open Go.RowKit

set_option maxHeartbeats 400000 in
theorem get_calls (v : Value) (l : List Int) (i : Int) (w : World) (hv : IsNums .i64 w v l) (hl : l.length ≤ 1099511627776) :
    Calls Tryd.prog 13 #[v, .int .i64 i] w fun e w' => e = .returned (.int .i64 (geti l i)) ∧ w' = w := by
  by_cases h0 : i < 0
  · have e : geti l i = 0 := by unfold geti; rw [if_pos (.inl h0)]
    rw [e]
    obtain ⟨a, cap, rfl, -, -⟩ := hv
    go_enter Tryd.func13, Tryd.ntmps13
    go_wp2
    go_ret
    exact ⟨rfl, rfl⟩
  · by_cases h1 : (l.length : Int) ≤ i
    · have e : geti l i = 0 := by unfold geti; rw [if_pos (.inr h1)]
      rw [e]
      obtain ⟨a, cap, rfl, -, -⟩ := hv
      go_enter Tryd.func13, Tryd.ntmps13
      go_wp2
      go_ret
      exact ⟨rfl, rfl⟩
    · have e : geti l i = l.getD i.toNat 0 := by unfold geti; rw [if_neg (by omega)]
      rw [e]
      obtain ⟨n, rfl⟩ := Int.eq_ofNat_of_zero_le (show 0 ≤ i by omega)
      rcases hv.cases with ⟨rfl, -⟩ | ⟨b, o, cap, rfl, -, hc, hb, hcell⟩
      · exact absurd h1 (by simp)
      · have hcl := hcell n (by omega)
        have hlt : (n : Int) < (l.length : Int) := by omega
        clear hcell hv e
        go_enter Tryd.func13, Tryd.ntmps13
        go_wp2
        go_ret
        exact ⟨by simp, rfl⟩


theorem Tryd.info3 : (Tryd.prog.info? 3).map (fun i => (i.zero, i.size, i.bytes)) = some (some (.int .i64 0), 1, 8) := by kernel_rfl
theorem Tryd.isize3 : (Tryd.prog.info? 3).map (·.size) = some 1 := by kernel_rfl

/-- v with noughts up to n. -/
def stretchL (l : List Int) (n : Nat) : List Int := l ++ List.replicate (n - l.length) 0

set_option maxHeartbeats 400000 in
theorem stretched_calls (v : Value) (l : List Int) (n : Nat) (w : World) (hv : IsNums .i64 w v l) (hn : n ≤ 1099511627776) (hl : l.length ≤ n) :
    Calls Tryd.prog 39 #[v, .int .i64 (n : Int)] w fun e w' => e = .returned (.slice (some ⟨w.heap.size, 0, none⟩) n n) ∧
      w'.ownsRow w.heap.size 3 1 (.slice (some ⟨w.heap.size, 0, none⟩) n n) n ((stretchL l n).map (Value.int .i64)) ∧ Below w.heap.size w w' := by
  obtain ⟨i0, hi, hz0, hz1, hz2⟩ := info_parts Tryd.info3
  obtain ⟨zs, hzs⟩ : ∃ zs : List Value, zs = List.replicate n (.int .i64 0) := ⟨_, rfl⟩
  obtain ⟨cs, hcs⟩ : ∃ cs : List Value, cs = l.map (Value.int .i64) := ⟨_, rfl⟩
  have hcl : cs.length = l.length := by rw [hcs]; simp
  have hzl : zs.length = n := by rw [hzs]; simp
  have Hzs : Hid (zs = List.replicate n (.int .i64 0)) := hzs
  have Hcs : Hid (cs = l.map (Value.int .i64)) := hcs
  have h1c : ∀ u ∈ cs, u.oneCell' = true := by rw [hcs]; exact ints_oneCell _ _
  obtain ⟨a, cap, rfl, hcap, hcell⟩ := hv
  have hsrc : ∀ j u, cs[j]? = some u → ∃ b o, a = some ⟨b, o, none⟩ ∧ b < w.heap.size ∧ w.cell? ⟨b, o + j, none⟩ = some u := by
    intro j u hu
    have hj : j < l.length := by have := (List.getElem?_eq_some_iff.1 hu).1; omega
    obtain ⟨b, o, ha, hc⟩ := hcell j hj
    refine ⟨b, o, ha, World.block_lt_of_cell? w _ hc, ?_⟩
    rw [hc, ← hu, hcs]
    simp [hj]
  clear hzs hcs hcell
  go_enter Tryd.func39, Tryd.ntmps39
  go_wp2_with (at_make; refine wpList_make_full _ rfl _ _ 24 rfl w.heap.size 3 i0 (.int .i64 0) 1 Tryd.underlying24 hi hz0 hz1 _ _ _ _ n rfl rfl rfl rfl ?b2 ?b3 (Nat.le_refl _) ?_)
  case b2 => rw [hz2]; omega
  case b3 => unfold maxLen; omega
  intro w0 hown0 hgrow0
  have hb0 : Below w.heap.size w w0 := (Below.refl _ _).grown hgrow0 (Nat.le_refl _) (fun k h => by cases h)
  have hrow : w0.heap[w.heap.size]? = some (.cells zs.toArray 3 (0, 0)) := by
    rw [toList_madeCells_one, ← Hzs.out] at hown0
    exact (row_full hown0).2
  clear hown0 hgrow0 hi hz0 hz1 hz2
  have Hsrc := hide hsrc
  clear hsrc
  go_wp2_with (refine wpList_copy_splice rfl _ _ 24 24 rfl 3 Tryd.underlying24 Tryd.isize3 _ _ n n l.length cap rfl rfl w.heap.size 0 zs 3 hrow cs ?c1 ?c2 (by omega) h1c w.heap.size w hb0 (Nat.le_refl _) ?_)
  case c1 => rw [hcl]; exact (Nat.min_eq_left hl).symm
  case c2 =>
    intro hp
    obtain ⟨b, o, rfl, hb, hc⟩ := Hsrc.out 0 cs[0] (by simp [hp])
    refine ⟨⟨b, o, none⟩, rfl, fun j u hu => ?_⟩
    obtain ⟨b', o', e, hb', hc'⟩ := Hsrc.out j u hu
    cases e
    rw [Addr.add_lit, hb0.cell (p := ⟨b, o + j, none⟩) hb']
    exact hc'
  intro w2 hg2 hb2
  go_wp2
  go_ret
  refine ⟨rfl, ?_, hb2⟩
  have e : splice zs 0 cs = (stretchL l n).map (Value.int .i64) := by
    rw [Hzs.out, Hcs.out]
    simp [splice, stretchL]
  rw [← e]
  exact full_row (Nat.le_refl _) (by unfold maxLen; omega) (by rw [length_splice _ _ _ (by omega)]; exact hzl) hg2.out

end Go.Proofs.YtepadjcmmkglfabDoor
