/- The walks of vec's Covers, Same, With, Check, written, and of the laws' Ints, few, up. Own work; no statement. -/
import Derived.Test.YthpahkcncjieiaaDoorW2
set_option linter.unusedSimpArgs false
set_option linter.unusedVariables false
namespace Go.Proofs.YthpahkcncjieiaaDoor
open Go.RowKit
set_option maxHeartbeats 1000000 in
theorem everywhereSame_calls (va vb : Value) (a b : List Int) (w : World) (ha : IsNums .i64 w va a) (hb : IsNums .i64 w vb b) (hla : a.length ≤ 1099511627776) (hlb : b.length ≤ 1099511627776) :
    Calls Tryd.prog 53 #[va, vb, .func (.func 54) #[] #[]] w fun e w' => e = .returned (.bool (everyB eqB a b)) ∧ w' = w := by
  obtain ⟨a1, capa, rfl, -, -⟩ := id ha
  obtain ⟨b1, capb, rfl, -, -⟩ := id hb
  have Ha := hide ha
  have Hb := hide hb
  clear ha hb
  obtain ⟨n, hn⟩ : ∃ n : Nat, max a.length b.length = n := ⟨_, rfl⟩
  have hn1 : n ≤ 1099511627776 := by omega
  have Hn := hide hn
  have hnI : ∃ (x : Bool), (if (a.length : Int) < (b.length : Int) then (b.length : Int) else (a.length : Int)) = n := ⟨true, by split <;> omega⟩
  clear hn
  by_cases hlt : (a.length : Int) < (b.length : Int)
  case' pos => obtain ⟨-, HI⟩ : ∃ (x : Bool), Hid ((b.length : Int) = n) := ⟨true, by have := Hn.out; unfold Hid; omega⟩
  case' neg => obtain ⟨-, HI⟩ : ∃ (x : Bool), Hid ((a.length : Int) = n) := ⟨true, by have := Hn.out; unfold Hid; omega⟩
  all_goals
    clear hnI
    go_enter Tryd.func53, Tryd.ntmps53
    go_wp2
    rw [HI.out]
    go_loop [13] (fun i => ∃ k : Nat, i = .int .i64 (k : Int) ∧ k ≤ n ∧ ∀ j : Nat, j < k → eqB (geti a j) (geti b j) = true) (fun i => n - (intOf i).toNat)
    case atStart => exact ⟨0, rfl, Nat.zero_le _, fun j h => absurd h (Nat.not_lt_zero j)⟩
    case round =>
      obtain ⟨k, rfl, hkn, hall⟩ := hrel
      have hall := hide hall
      by_cases hk : k < n
      · have hlt' : (k : Int) < (n : Int) := by omega
        cases hf : eqB (geti a k) (geti b k)
        · go_wp2_with (first | (go_at_call_of 33 (Value.slice a1 a.length capa); refine (get_calls _ _ _ _ Ha.out hla).mono ?_; rintro e w' ⟨rfl, rfl⟩) | (go_at_call_of 33 (Value.slice b1 b.length capb); refine (get_calls _ _ _ _ Hb.out hlb).mono ?_; rintro e w' ⟨rfl, rfl⟩) | (go_at_call 54; refine (Same1_calls _ _ _).mono ?_; rintro e w' ⟨rfl, rfl⟩))
          go_ret
          refine ⟨?_, rfl⟩
          rw [everyB_no eqB a b k (by have := Hn.out; omega) (by rw [← geti_nat, ← geti_nat]; exact hf)]
          rfl
        · have hf' := hide hf
          go_wp2_with (first | (go_at_call_of 33 (Value.slice a1 a.length capa); refine (get_calls _ _ _ _ Ha.out hla).mono ?_; rintro e w' ⟨rfl, rfl⟩) | (go_at_call_of 33 (Value.slice b1 b.length capb); refine (get_calls _ _ _ _ Hb.out hlb).mono ?_; rintro e w' ⟨rfl, rfl⟩) | (go_at_call 54; refine (Same1_calls _ _ _).mono ?_; rintro e w' ⟨rfl, rfl⟩))
          refine ⟨⟨k + 1, by go_num, by omega, fun j hj => ?_⟩, by simp [intOf]; omega⟩
          by_cases e : j = k
          · rw [e]; exact hf'.out
          · exact hall.out j (by omega)
      · go_wp2
        go_ret
        refine ⟨?_, rfl⟩
        rw [everyB_yes eqB a b (fun i hi => by rw [← geti_nat, ← geti_nat]; exact hall.out i (by have := Hn.out; omega))]
        rfl

set_option maxHeartbeats 400000 in
theorem same_calls (va vb : Value) (a b : List Int) (w : World) (ha : IsNums .i64 w va a) (hb : IsNums .i64 w vb b) (hla : a.length ≤ 1099511627776) (hlb : b.length ≤ 1099511627776) :
    Calls Tryd.prog 29 #[va, vb] w fun e w' => e = .returned (.bool (everyB eqB a b)) ∧ w' = w := by
  have Ha := hide ha
  have Hb := hide hb
  obtain ⟨a1, capa, rfl, -, -⟩ := ha
  obtain ⟨b1, capb, rfl, -, -⟩ := hb
  have hmf : ∀ (fn : Fn) (first cap : Array Value) (w : World), (Instr.makeFunc fn first cap).run Tryd.prog w = .ok (.func fn first cap) w := fun _ _ _ _ => rfl
  go_enter Tryd.func29, Tryd.ntmps29
  go_wp2_with (go_at_call 53; refine (everywhereSame_calls _ _ a b _ Ha.out Hb.out hla hlb).mono ?_; rintro e w' ⟨rfl, rfl⟩)
  go_ret
  exact ⟨rfl, rfl⟩

end Go.Proofs.YthpahkcncjieiaaDoor
