/- The walks of the reference's Decimal, VecText, With. Own work; no statement. -/
import Derived.Test.YthpahkcncjieiaaDoorRefA
import Derived.Test.YthpahkcncjieiaaDoorWords
set_option linter.unusedSimpArgs false
set_option linter.unusedVariables false
namespace Go.Proofs.YthpahkcncjieiaaDoor
open Go.RowKit Go.Shelf

def headD (u : Nat) : List UInt8 := if u < 10 then [] else Lib.decDigits (u / 10)
theorem digits_head (u : Nat) : Lib.decDigits u = headD u ++ [UInt8.ofNat (48 + u % 10)] := by
  rw [Lib.decDigits]
  unfold headD
  split
  · rename_i h
    rw [Nat.mod_eq_of_lt h]; rfl
  · rfl
theorem cons_bytes (b : UInt8) (S : List UInt8) : (⟨#[b]⟩ : ByteArray) ++ ⟨S.toArray⟩ = ⟨(b :: S).toArray⟩ := by
  apply ByteArray.ext
  simp [ByteArray.data_append]
theorem conv_one (w : World) (b : UInt8) (c : Int) (hc : (b.toNat : Int) = c) : (convert 77 9 (.slice (some ⟨w.heap.size, 0, none⟩) 1 1)).run Tryd.prog (w.alloc (.cells #[.int .u8 c] 5)) = .ok (.string ⟨#[b]⟩) (w.alloc (.cells #[.int .u8 c] 5)) := by
  subst hc
  have h : (w.alloc (.cells #[.int .u8 (b.toNat : Int)] 5)).ownsRow 0 5 1 (.slice (some ⟨w.heap.size, 0, none⟩) 1 1) 1 (Lib.byteCells [b]) := World.ownsRow_lit _ #[.int .u8 (b.toNat : Int)] 1 (Nat.zero_le _) (by unfold maxLen; omega) rfl
  exact conv_row h Tryd.underlying77 Tryd.underlying5 Tryd.underlying9

def lenOf' : Value → Nat
  | .slice _ n _ => n
  | _ => 0
theorem stretchL_succ (l : List Int) (k : Nat) (h : l.length ≤ k) : stretchL l (k + 1) = stretchL l k ++ [0] := by
  unfold stretchL
  rw [show k + 1 - l.length = (k - l.length) + 1 by omega, List.replicate_succ', List.append_assoc]

end Go.Proofs.YthpahkcncjieiaaDoor
