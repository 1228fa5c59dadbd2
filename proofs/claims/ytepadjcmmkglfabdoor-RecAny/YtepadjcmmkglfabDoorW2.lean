/- The walks of vec's Join, Meet, Covers, Same, With, Check, written: each call by its contract. Own work; no statement. -/
import Derived.Test.YtepadjcmmkglfabDoorW1
import Derived.Deep.RegionWith
set_option linter.unusedSimpArgs false
set_option linter.unusedVariables false
namespace Go.Proofs.YtepadjcmmkglfabDoor
open Go.RowKit

theorem ret_int {k : IntKind} {a b : Int} (h : a = b) : Ending.returned (.int k a) = .returned (.int k b) := by rw [h]

/-- The tests that Covers and Same make of a site. -/
def covB (x y : Int) : Bool := decide (y ≤ x)
def eqB (x y : Int) : Bool := x == y

/-- What f takes of each site that a or b has. -/
def bySiteL (f : Int → Int → Int) (a b : List Int) : List Int := (List.range (max a.length b.length)).map fun i => f (a.getD i 0) (b.getD i 0)
/-- Whether f is true of each site that a or b has. -/
def everyB (f : Int → Int → Bool) (a b : List Int) : Bool := (List.range (max a.length b.length)).all fun i => f (a.getD i 0) (b.getD i 0)

theorem bySiteL_length (f : Int → Int → Int) (a b : List Int) : (bySiteL f a b).length = max a.length b.length := by simp [bySiteL]

/-- The first k of them are there, the others are still nought. -/
def partL (f : Int → Int → Int) (a b : List Int) (k : Nat) : List Int := (List.range (max a.length b.length)).map fun i => if i < k then f (a.getD i 0) (b.getD i 0) else 0
theorem partL_zero (f : Int → Int → Int) (a b : List Int) : partL f a b 0 = List.replicate (max a.length b.length) 0 := by
  apply List.ext_getElem <;> simp [partL]
theorem partL_all (f : Int → Int → Int) (a b : List Int) : partL f a b (max a.length b.length) = bySiteL f a b := by
  apply List.ext_getElem
  · simp [partL, bySiteL]
  · intro i h1 h2
    have h : i < max a.length b.length := by simpa [partL] using h1
    simp only [partL, bySiteL, List.getElem_map, List.getElem_range]
    rw [if_pos h]
theorem partL_succ (f : Int → Int → Int) (a b : List Int) (k : Nat) (h : k < max a.length b.length) : (partL f a b k).set k (f (a.getD k 0) (b.getD k 0)) = partL f a b (k + 1) := by
  apply List.ext_getElem
  · simp [partL]
  · intro i h1 h2
    simp only [partL, List.getElem_set, List.getElem_map, List.getElem_range]
    by_cases e : k = i
    · subst e; simp
    · rw [if_neg e]
      by_cases g : i < k
      · rw [if_pos g, if_pos (by omega)]
      · rw [if_neg g, if_neg (by omega)]
theorem everyB_no (f : Int → Int → Bool) (a b : List Int) (k : Nat) (h : k < max a.length b.length) (hf : f (a.getD k 0) (b.getD k 0) = false) : everyB f a b = false := by
  unfold everyB
  rw [List.all_eq_false]
  exact ⟨k, by simpa using h, by rw [hf]; simp⟩
theorem everyB_yes (f : Int → Int → Bool) (a b : List Int) (h : ∀ i, i < max a.length b.length → f (a.getD i 0) (b.getD i 0) = true) : everyB f a b = true := by
  unfold everyB
  rw [List.all_eq_true]
  intro i hi
  exact h i (by simpa using hi)


set_option maxHeartbeats 400000 in
theorem Join1_calls (x y : Int) (w : World) : Calls Tryd.prog 38 #[.int .i64 x, .int .i64 y] w fun e w' => e = .returned (.int .i64 (max x y)) ∧ w' = w := by
  go_enter Tryd.func38, Tryd.ntmps38
  go_wp2
  all_goals go_ret
  all_goals exact ⟨ret_int (by omega), rfl⟩
set_option maxHeartbeats 400000 in
theorem Meet1_calls (x y : Int) (w : World) : Calls Tryd.prog 58 #[.int .i64 x, .int .i64 y] w fun e w' => e = .returned (.int .i64 (min x y)) ∧ w' = w := by
  go_enter Tryd.func58, Tryd.ntmps58
  go_wp2
  all_goals go_ret
  all_goals exact ⟨ret_int (by omega), rfl⟩
set_option maxHeartbeats 400000 in
theorem Covers1_calls (x y : Int) (w : World) : Calls Tryd.prog 66 #[.int .i64 x, .int .i64 y] w fun e w' => e = .returned (.bool (covB x y)) ∧ w' = w := by
  go_enter Tryd.func66, Tryd.ntmps66
  go_wp2
  all_goals go_ret
  all_goals exact ⟨by simp [covB], rfl⟩
set_option maxHeartbeats 400000 in
theorem Same1_calls (x y : Int) (w : World) : Calls Tryd.prog 65 #[.int .i64 x, .int .i64 y] w fun e w' => e = .returned (.bool (eqB x y)) ∧ w' = w := by
  go_enter Tryd.func65, Tryd.ntmps65
  go_wp2
  all_goals go_ret
  all_goals exact ⟨by simp [eqB], rfl⟩
set_option maxHeartbeats 1000000 in
theorem bySiteJoin_calls (va vb : Value) (a b : List Int) (w : World) (ha : IsNums .i64 w va a) (hb : IsNums .i64 w vb b) (hla : a.length ≤ 1099511627776) (hlb : b.length ≤ 1099511627776) :
    Calls Tryd.prog 37 #[va, vb, .func (.func 38) #[] #[]] w fun e w' => ∃ v, e = .returned v ∧
      w'.ownsRow w.heap.size 3 1 v (max a.length b.length) ((bySiteL max a b).map (Value.int .i64)) ∧ Below w.heap.size w w' := by
  obtain ⟨i0, hi, hz0, hz1, hz2⟩ := info_parts Tryd.info3
  obtain ⟨a1, capa, rfl, -, -⟩ := id ha
  obtain ⟨b1, capb, rfl, -, -⟩ := id hb
  have Ha := hide ha
  have Hb := hide hb
  clear ha hb
  obtain ⟨n, hn⟩ : ∃ n : Nat, max a.length b.length = n := ⟨_, rfl⟩
  have hn1 : n ≤ 1099511627776 := by omega
  rw [hn]
  have Hn := hide hn
  clear hn
  by_cases hlt : (a.length : Int) < (b.length : Int)
  all_goals
    go_enter Tryd.func37, Tryd.ntmps37
    go_wp2_with (at_make; refine wpList_make_full _ rfl _ _ 24 rfl w.heap.size 3 i0 (.int .i64 0) 1 Tryd.underlying24 hi hz0 hz1 _ _ _ _ n rfl rfl (by have := Hn.out; omega) (by have := Hn.out; omega) (by rw [hz2]; omega) (by unfold maxLen; omega) (Nat.le_refl _) ?_; intro w0 hown0 hgrow0)
  all_goals
    have hb0 : Below w.heap.size w w0 := (Below.refl _ _).grown hgrow0 (Nat.le_refl _) (fun k h => by cases h)
    have hown1 : w0.ownsRow w.heap.size 3 1 (.slice (some ⟨w.heap.size, 0, none⟩) n n) n ((partL max a b 0).map (Value.int .i64)) := by
      rw [Nat.mul_one, show (Value.int .i64 0).cells = #[.int .i64 0] from rfl, toList_madeCells_one] at hown0
      rw [partL_zero, Hn.out, List.map_replicate]
      exact hown0
    clear hown0 hgrow0 hi hz0 hz1 hz2
    go_loopw [17] (fun i wr => ∃ k : Nat, i = .int .i64 (k : Int) ∧ k ≤ n ∧ wr.ownsRow w.heap.size 3 1 (.slice (some ⟨w.heap.size, 0, none⟩) n n) n ((partL max a b k).map (Value.int .i64)) ∧ Below w.heap.size w wr) (fun i _ => n - (intOf i).toNat)
    case atStart => exact ⟨0, rfl, Nat.zero_le _, hown1, hb0⟩
    case round =>
      clear hown1 hb0
      obtain ⟨k, rfl, hkn, hown, hB⟩ := hrel
      have ha := hide (Ha.out.below hB)
      have hb := hide (Hb.out.below hB)
      by_cases hk : k < n
      · have hc := hown.cellAt k (by omega)
        have hlen : (partL max a b k).length = n := by simp [partL, Hn.out]
        rw [List.getElem?_map, List.getElem?_eq_getElem (by omega), Option.map_some] at hc
        generalize (partL max a b k)[k]'(by omega) = old at hc
        have hf := hown.frozenAt k
        obtain ⟨hown2, hg2⟩ := hown.stored k (.int .i64 (max (geti a k) (geti b k)))
        have hlt' : (k : Int) < (n : Int) := by omega
        have HO := hide hown2
        have HG := hide hg2
        clear hown hown2 hg2
        go_wp2_with (first | (go_at_call_of 13 (Value.slice a1 a.length capa); refine (get_calls _ _ _ _ ha.out hla).mono ?_; rintro e w' ⟨rfl, rfl⟩) | (go_at_call_of 13 (Value.slice b1 b.length capb); refine (get_calls _ _ _ _ hb.out hlb).mono ?_; rintro e w' ⟨rfl, rfl⟩) | (go_at_call 38; refine (Join1_calls _ _ _).mono ?_; rintro e w' ⟨rfl, rfl⟩))
        have e : ((partL max a b k).map (Value.int .i64)).set k (.int .i64 (max (geti a k) (geti b k))) = (partL max a b (k + 1)).map (Value.int .i64) := by
          rw [geti_nat, geti_nat, ← partL_succ max a b k (by have := Hn.out; omega), List.map_set]
        refine ⟨⟨k + 1, by go_num, by omega, ?_, hB.setCell (p := ⟨w.heap.size, k, none⟩) (Nat.le_refl _) _⟩, by simp [intOf]; omega⟩
        rw [← e]
        exact HO.out
      · have hkn' : k = n := by omega
        have Hk := hide hkn'
        clear hkn'
        go_wp2
        go_ret
        refine ⟨_, rfl, ?_, hB⟩
        rw [← partL_all max a b, Hn.out, ← Hk.out]
        have := hown
        rw [← Hk.out] at this
        exact this

set_option maxHeartbeats 400000 in
theorem join_calls (va vb : Value) (a b : List Int) (w : World) (ha : IsNums .i64 w va a) (hb : IsNums .i64 w vb b) (hla : a.length ≤ 1099511627776) (hlb : b.length ≤ 1099511627776) :
    Calls Tryd.prog 12 #[va, vb] w fun e w' => ∃ v, e = .returned v ∧ IsNums .i64 w' v (bySiteL max a b) ∧ Below w.heap.size w w' := by
  have Ha := hide ha
  have Hb := hide hb
  obtain ⟨a1, capa, rfl, -, -⟩ := ha
  obtain ⟨b1, capb, rfl, -, -⟩ := hb
  have hmf : ∀ (fn : Fn) (first cap : Array Value) (w : World), (Instr.makeFunc fn first cap).run Tryd.prog w = .ok (.func fn first cap) w := fun _ _ _ _ => rfl
  go_enter Tryd.func12, Tryd.ntmps12
  go_wp2_with (go_at_call 37; refine (bySiteJoin_calls _ _ a b _ Ha.out Hb.out hla hlb).mono ?_; rintro e w' ⟨v, rfl, hown, hB⟩)
  go_ret
  exact ⟨_, rfl, IsNums.of_row hown, hB⟩
set_option maxHeartbeats 1000000 in
theorem bySiteMeet_calls (va vb : Value) (a b : List Int) (w : World) (ha : IsNums .i64 w va a) (hb : IsNums .i64 w vb b) (hla : a.length ≤ 1099511627776) (hlb : b.length ≤ 1099511627776) :
    Calls Tryd.prog 37 #[va, vb, .func (.func 58) #[] #[]] w fun e w' => ∃ v, e = .returned v ∧
      w'.ownsRow w.heap.size 3 1 v (max a.length b.length) ((bySiteL min a b).map (Value.int .i64)) ∧ Below w.heap.size w w' := by
  obtain ⟨i0, hi, hz0, hz1, hz2⟩ := info_parts Tryd.info3
  obtain ⟨a1, capa, rfl, -, -⟩ := id ha
  obtain ⟨b1, capb, rfl, -, -⟩ := id hb
  have Ha := hide ha
  have Hb := hide hb
  clear ha hb
  obtain ⟨n, hn⟩ : ∃ n : Nat, max a.length b.length = n := ⟨_, rfl⟩
  have hn1 : n ≤ 1099511627776 := by omega
  rw [hn]
  have Hn := hide hn
  clear hn
  by_cases hlt : (a.length : Int) < (b.length : Int)
  all_goals
    go_enter Tryd.func37, Tryd.ntmps37
    go_wp2_with (at_make; refine wpList_make_full _ rfl _ _ 24 rfl w.heap.size 3 i0 (.int .i64 0) 1 Tryd.underlying24 hi hz0 hz1 _ _ _ _ n rfl rfl (by have := Hn.out; omega) (by have := Hn.out; omega) (by rw [hz2]; omega) (by unfold maxLen; omega) (Nat.le_refl _) ?_; intro w0 hown0 hgrow0)
  all_goals
    have hb0 : Below w.heap.size w w0 := (Below.refl _ _).grown hgrow0 (Nat.le_refl _) (fun k h => by cases h)
    have hown1 : w0.ownsRow w.heap.size 3 1 (.slice (some ⟨w.heap.size, 0, none⟩) n n) n ((partL min a b 0).map (Value.int .i64)) := by
      rw [Nat.mul_one, show (Value.int .i64 0).cells = #[.int .i64 0] from rfl, toList_madeCells_one] at hown0
      rw [partL_zero, Hn.out, List.map_replicate]
      exact hown0
    clear hown0 hgrow0 hi hz0 hz1 hz2
    go_loopw [17] (fun i wr => ∃ k : Nat, i = .int .i64 (k : Int) ∧ k ≤ n ∧ wr.ownsRow w.heap.size 3 1 (.slice (some ⟨w.heap.size, 0, none⟩) n n) n ((partL min a b k).map (Value.int .i64)) ∧ Below w.heap.size w wr) (fun i _ => n - (intOf i).toNat)
    case atStart => exact ⟨0, rfl, Nat.zero_le _, hown1, hb0⟩
    case round =>
      clear hown1 hb0
      obtain ⟨k, rfl, hkn, hown, hB⟩ := hrel
      have ha := hide (Ha.out.below hB)
      have hb := hide (Hb.out.below hB)
      by_cases hk : k < n
      · have hc := hown.cellAt k (by omega)
        have hlen : (partL min a b k).length = n := by simp [partL, Hn.out]
        rw [List.getElem?_map, List.getElem?_eq_getElem (by omega), Option.map_some] at hc
        generalize (partL min a b k)[k]'(by omega) = old at hc
        have hf := hown.frozenAt k
        obtain ⟨hown2, hg2⟩ := hown.stored k (.int .i64 (min (geti a k) (geti b k)))
        have hlt' : (k : Int) < (n : Int) := by omega
        have HO := hide hown2
        have HG := hide hg2
        clear hown hown2 hg2
        go_wp2_with (first | (go_at_call_of 13 (Value.slice a1 a.length capa); refine (get_calls _ _ _ _ ha.out hla).mono ?_; rintro e w' ⟨rfl, rfl⟩) | (go_at_call_of 13 (Value.slice b1 b.length capb); refine (get_calls _ _ _ _ hb.out hlb).mono ?_; rintro e w' ⟨rfl, rfl⟩) | (go_at_call 58; refine (Meet1_calls _ _ _).mono ?_; rintro e w' ⟨rfl, rfl⟩))
        have e : ((partL min a b k).map (Value.int .i64)).set k (.int .i64 (min (geti a k) (geti b k))) = (partL min a b (k + 1)).map (Value.int .i64) := by
          rw [geti_nat, geti_nat, ← partL_succ min a b k (by have := Hn.out; omega), List.map_set]
        refine ⟨⟨k + 1, by go_num, by omega, ?_, hB.setCell (p := ⟨w.heap.size, k, none⟩) (Nat.le_refl _) _⟩, by simp [intOf]; omega⟩
        rw [← e]
        exact HO.out
      · have hkn' : k = n := by omega
        have Hk := hide hkn'
        clear hkn'
        go_wp2
        go_ret
        refine ⟨_, rfl, ?_, hB⟩
        rw [← partL_all min a b, Hn.out, ← Hk.out]
        have := hown
        rw [← Hk.out] at this
        exact this

set_option maxHeartbeats 400000 in
theorem meet_calls (va vb : Value) (a b : List Int) (w : World) (ha : IsNums .i64 w va a) (hb : IsNums .i64 w vb b) (hla : a.length ≤ 1099511627776) (hlb : b.length ≤ 1099511627776) :
    Calls Tryd.prog 30 #[va, vb] w fun e w' => ∃ v, e = .returned v ∧ IsNums .i64 w' v (bySiteL min a b) ∧ Below w.heap.size w w' := by
  have Ha := hide ha
  have Hb := hide hb
  obtain ⟨a1, capa, rfl, -, -⟩ := ha
  obtain ⟨b1, capb, rfl, -, -⟩ := hb
  have hmf : ∀ (fn : Fn) (first cap : Array Value) (w : World), (Instr.makeFunc fn first cap).run Tryd.prog w = .ok (.func fn first cap) w := fun _ _ _ _ => rfl
  go_enter Tryd.func30, Tryd.ntmps30
  go_wp2_with (go_at_call 37; refine (bySiteMeet_calls _ _ a b _ Ha.out Hb.out hla hlb).mono ?_; rintro e w' ⟨v, rfl, hown, hB⟩)
  go_ret
  exact ⟨_, rfl, IsNums.of_row hown, hB⟩

end Go.Proofs.YtepadjcmmkglfabDoor
