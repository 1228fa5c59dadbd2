/- The walks of the reference's Decimal, VecText, With. Own work; no statement. -/
import Derived.Test.YtepadjcmmkglfabDoorRefA
import Derived.Test.YtepadjcmmkglfabDoorWords
set_option linter.unusedSimpArgs false
set_option linter.unusedVariables false
namespace Go.Proofs.YtepadjcmmkglfabDoor
open Go.RowKit Go.Shelf

def headD (u : Nat) : List UInt8 := if u < 10 then [] else Lib.decDigits (u / 10)
theorem digits_head (u : Nat) : Lib.decDigits u = headD u ++ [UInt8.ofNat (48 + u % 10)] := by
  rw [Lib.decDigits]
  unfold headD
  split
  · rename_i h
    rw [Nat.mod_eq_of_lt h]; rfl
  · rfl
theorem cons_bytes (b : UInt8) (S : List UInt8) : (⟨#[b]⟩ : ByteArray) ++ ⟨S.toArray⟩ = ⟨(b :: S).toArray⟩ := by
  apply ByteArray.ext
  simp [ByteArray.data_append]
theorem conv_one (w : World) (b : UInt8) (c : Int) (hc : (b.toNat : Int) = c) : (convert 94 9 (.slice (some ⟨w.heap.size, 0, none⟩) 1 1)).run Tryd.prog (w.alloc (.cells #[.int .u8 c] 5)) = .ok (.string ⟨#[b]⟩) (w.alloc (.cells #[.int .u8 c] 5)) := by
  subst hc
  have h : (w.alloc (.cells #[.int .u8 (b.toNat : Int)] 5)).ownsRow 0 5 1 (.slice (some ⟨w.heap.size, 0, none⟩) 1 1) 1 (Lib.byteCells [b]) := World.ownsRow_lit _ #[.int .u8 (b.toNat : Int)] 1 (Nat.zero_le _) (by unfold maxLen; omega) rfl
  exact conv_row h Tryd.underlying94 Tryd.underlying5 Tryd.underlying9

set_option maxRecDepth 100000 in
set_option maxHeartbeats 1000000 in
theorem refDecNat_calls (u : Nat) (w : World) (hu : (u : Int) ≤ 9223372036854775807) :
    Calls Tryd.prog 48 #[.int .i64 (u : Int)] w fun e w' => e = .returned (.string ⟨(Lib.decDigits u).toArray⟩) ∧ Below w.heap.size w w' := by
  have hu0 : ¬ (u : Int) < 0 := by omega
  have hd0 := hide (digits_head u)
  obtain ⟨b0, hb0⟩ : ∃ b, UInt8.ofNat (48 + u % 10) = b := ⟨_, rfl⟩
  have hc0 := fun w => conv_one w b0 (48 + (u : Int) % 10) (by rw [← hb0, digit_val _ (by omega)]; omega)
  rw [hb0] at hd0
  clear hb0
  go_enter Tryd.func48, Tryd.ntmps48
  go_wp2_with fail
  clear hc0
  go_loopw [0, 3] (fun nv s wr => ∃ (m : Nat) (S : List UInt8), nv = .int .i64 (m : Int) ∧ s = .string ⟨S.toArray⟩ ∧ m ≤ u ∧ S.length + m ≤ u + 1 ∧ Lib.decDigits u = headD m ++ S ∧ Below w.heap.size w wr) (fun nv _ _ => (intOf nv).toNat)
  case atStart => exact ⟨u, [b0], rfl, rfl, Nat.le_refl _, by simp; omega, hd0.out, alloc_below _ _⟩
  case round =>
    obtain ⟨m, S, rfl, rfl, hmu, hsl, hS, hB⟩ := hrel
    have hmI : (m : Int) ≤ 9223372036854775807 := by omega
    by_cases hm : 10 ≤ (m : Int)
    · have hd1 := digits_head (m / 10)
      obtain ⟨b1, hb1⟩ : ∃ b, UInt8.ofNat (48 + m / 10 % 10) = b := ⟨_, rfl⟩
      have hc1 := fun w => conv_one w b1 (48 + (m : Int) / 10 % 10) (by rw [← hb1, digit_val _ (by omega)]; omega)
      rw [hb1] at hd1
      clear hb1
      have hS2 : Lib.decDigits u = headD (m / 10) ++ (b1 :: S) := by
        rw [hS, headD, if_neg (by omega), hd1, List.append_assoc]; rfl
      replace hS2 := hide hS2
      clear hd1 hS
      go_wp2_with fail
      refine ⟨⟨m / 10, b1 :: S, by simp, by rw [cons_bytes], by omega, by simp; omega, hS2.out, hB.alloc hB.size _⟩, by simp [intOf]; omega⟩
    · have e : headD m = [] := by unfold headD; rw [if_pos (by omega)]
      rw [e, List.nil_append] at hS
      replace hS := hide hS
      clear e
      go_wp2_with fail
      go_ret
      exact ⟨by rw [hS.out]; rfl, hB⟩

def lenOf' : Value → Nat
  | .slice _ n _ => n
  | _ => 0
theorem stretchL_succ (l : List Int) (k : Nat) (h : l.length ≤ k) : stretchL l (k + 1) = stretchL l k ++ [0] := by
  unfold stretchL
  rw [show k + 1 - l.length = (k - l.length) + 1 by omega, List.replicate_succ', List.append_assoc]

end Go.Proofs.YtepadjcmmkglfabDoor
