/- Own work: the parts W4o of the proof, laid together. -/
import Derived.Test.YtdkpbfigjdmfpaaPartTokenChain1
/- vec's With, whose answer is a row of its own. Own work; no statement. -/
set_option linter.unusedSimpArgs false
set_option linter.unusedVariables false
namespace Go.Proofs.Ytdkpbfigjdmfpaa
open Go.RowKit

set_option maxHeartbeats 400000 in
/-- With answers a row of its own. -/
theorem withO_calls (v : Value) (l : List Int) (i n : Int) (w : World) (hv : IsNums .i64 w v l) (hl : l.length ≤ 1099511627000) :
    Calls Try.prog 47 #[v, .int .i64 i, .int .i64 n] w fun e w' => ∃ v', e = .returned v' ∧ w'.ownsRow w.heap.size 3 1 v' (withL l i n).length ((withL l i n).map (Value.int .i64)) ∧ Below w.heap.size w w' := by
  have Hv := hide hv
  obtain ⟨a1, cap, rfl, -, -⟩ := hv
  by_cases h : i < 0 ∨ 63 < i
  · have e : withL l i n = stretchL l l.length := by rw [withL, if_pos h, stretchL_self]
    have E := hide e
    clear e
    rcases h with h | h
    · go_enter Try.func47, Try.ntmps47
      go_wp2_with (go_at_call 48; refine (stretched_calls _ l l.length _ Hv.out (by omega) (Nat.le_refl _)).mono ?_; rintro e w' ⟨rfl, hown, hB⟩)
      go_ret
      rw [E.out, stretchL_length _ _ (Nat.le_refl _)]
      exact ⟨_, rfl, hown, hB⟩
    · have h0 : ¬ i < 0 := by omega
      go_enter Try.func47, Try.ntmps47
      go_wp2_with (go_at_call 48; refine (stretched_calls _ l l.length _ Hv.out (by omega) (Nat.le_refl _)).mono ?_; rintro e w' ⟨rfl, hown, hB⟩)
      go_ret
      rw [E.out, stretchL_length _ _ (Nat.le_refl _)]
      exact ⟨_, rfl, hown, hB⟩
  · have e : withL l i n = (stretchL l (max l.length (i.toNat + 1))).set i.toNat n := by rw [withL, if_neg h]
    obtain ⟨k, rfl⟩ := Int.eq_ofNat_of_zero_le (show 0 ≤ i by omega)
    rw [Int.toNat_natCast] at e
    have E := hide e
    clear e
    have h0 : ¬ (k : Int) < 0 := by omega
    have h1 : ¬ 63 < (k : Int) := by omega
    obtain ⟨m, hm⟩ : ∃ m, max l.length (k + 1) = m := ⟨_, rfl⟩
    have hm1 : m ≤ 1099511627776 := by omega
    have hm2 : l.length ≤ m := by omega
    have hm3 : k < m := by omega
    have Hm := hide hm
    clear hm h
    by_cases hlt : (l.length : Int) < (k : Int) + 1
    case' pos => have HI : Hid ((k : Int) + 1 = (m : Int)) := hide (by have := Hm.out; omega)
    case' neg => have HI : Hid ((l.length : Int) = (m : Int)) := hide (by have := Hm.out; omega)
    all_goals
      go_enter Try.func47, Try.ntmps47
      go_wp2_with (go_at_call 48; rw [HI.out]; refine (stretched_calls _ l m _ Hv.out (by omega) hm2).mono ?_; rintro e w' ⟨rfl, hown, hB⟩; have hc := hown.cellAt k (by omega); have hf := hown.frozenAt k; obtain ⟨hown2, hg2⟩ := hown.stored k (.int .i64 n); rw [List.getElem?_map, List.getElem?_eq_getElem (by rw [stretchL_length _ _ hm2]; exact hm3), Option.map_some] at hc; generalize (stretchL l m)[k]'(by rw [stretchL_length _ _ hm2]; exact hm3) = old at hc; have HO := hide hown2; clear hown hown2 hg2)
      go_ret
      refine ⟨_, rfl, ?_, hB.setCell (p := ⟨w.heap.size, k, none⟩) (Nat.le_refl _) _⟩
      have hlen : (withL l (k : Int) n).length = m := by rw [E.out, Hm.out, List.length_set, stretchL_length _ _ hm2]
      have := HO.out
      rw [← List.map_set] at this
      rw [hlen, E.out, Hm.out]
      exact this


end Go.Proofs.Ytdkpbfigjdmfpaa
