/- num's Decimal and Parse: a number in words. Own work; no statement. -/
import Derived.Test.YtpkjkhpnhcbciaaW11
set_option linter.unusedSimpArgs false
set_option linter.unusedVariables false
namespace Go.Proofs.Ytpkjkhpnhcbciaa
open Go.RowKit Go.Shelf

/-- Is it a digit? -/
def digB (c : UInt8) : Bool := decide (48 ≤ c.toNat ∧ c.toNat ≤ 57)
/-- Digits' number, but no more than MaxSeq + 1. -/
def decTo : List UInt8 → Int → Int
  | [], n => n
  | c :: r, n => decTo r (min (n * 10 + ((c.toNat : Int) - 48)) 1048577)
/-- Digits' number, but no more than m + 1. -/
def decToM (m : Int) : List UInt8 → Int → Int
  | [], n => n
  | c :: r, n => decToM m r (min (n * 10 + ((c.toNat : Int) - 48)) (m + 1))
theorem decToM_eq : ∀ (l : List UInt8) (n : Int), decToM 1048576 l n = decTo l n
  | [], _ => rfl
  | _ :: l, _ => decToM_eq l _
theorem decToM_snoc (m : Int) : ∀ (l : List UInt8) (c : UInt8) (n : Int), decToM m (l ++ [c]) n = min (decToM m l n * 10 + ((c.toNat : Int) - 48)) (m + 1)
  | [], _, _ => rfl
  | _ :: l, c, _ => decToM_snoc m l c _
/-- Digits, at least one, without leading noughts. -/
def decOk (l : List UInt8) : Bool := !l.isEmpty && !(decide (1 < l.length) && l.head? == some 48) && l.all digB

theorem decTo_snoc : ∀ (l : List UInt8) (c : UInt8) (n : Int), decTo (l ++ [c]) n = min (decTo l n * 10 + ((c.toNat : Int) - 48)) 1048577
  | [], _, _ => rfl
  | _ :: l, c, _ => decTo_snoc l c _

theorem decTo_range : ∀ (l : List UInt8) (n : Int), (∀ c ∈ l, digB c = true) → 0 ≤ n → n ≤ 1048577 → 0 ≤ decTo l n ∧ decTo l n ≤ 1048577
  | [], n, _, h0, h1 => ⟨h0, h1⟩
  | c :: l, n, h, h0, h1 => by
    have hc := h c (by simp)
    simp only [digB, decide_eq_true_eq] at hc
    exact decTo_range l _ (fun d hd => h d (by simp [hd])) (by omega) (by omega)

theorem decToM_range {m : Int} (hm : 0 ≤ m) : ∀ (l : List UInt8) (n : Int), (∀ c ∈ l, digB c = true) → 0 ≤ n → n ≤ m + 1 → 0 ≤ decToM m l n ∧ decToM m l n ≤ m + 1
  | [], n, _, h0, h1 => ⟨h0, h1⟩
  | c :: l, n, h, h0, h1 => by
    have hc := h c (by simp)
    simp only [digB, decide_eq_true_eq] at hc
    exact decToM_range hm l _ (fun d hd => h d (by simp [hd])) (by omega) (by omega)

theorem take_snoc_byte (s : ByteArray) (k : Nat) (h : k < s.size) : s.data.toList.take (k + 1) = s.data.toList.take k ++ [s[k]] := by
  rw [List.take_succ_eq_append_getElem (by simpa using h)]; rfl

theorem decOk_long (s : ByteArray) (h1 : 1 < s.size) (h0 : s[0] = 48) : decOk s.data.toList = false := by
  have : s.data.toList.head? = some 48 := by
    rw [List.head?_eq_getElem?, List.getElem?_eq_getElem (by simpa using (show 0 < s.size by omega))]
    exact congrArg some h0
  have hl : 1 < s.data.toList.length := by simpa using h1
  simp only [decOk, this, hl]
  simp

theorem decOk_not (s : ByteArray) (k : Nat) (h : k < s.size) (hd : digB s[k] = false) : decOk s.data.toList = false := by
  have hm : s[k] ∈ s.data.toList := by
    have : s[k] = s.data.toList[k]'(by simpa using h) := rfl
    rw [this]
    exact List.getElem_mem _
  have : s.data.toList.all digB = false := by
    rw [List.all_eq_false]
    exact ⟨_, hm, by rw [hd]; simp⟩
  simp [decOk, this]

theorem decOk_yes (s : ByteArray) (h0 : 0 < s.size) (h1 : ¬ (1 < s.size ∧ s[0] = 48)) (hall : ∀ c ∈ s.data.toList, digB c = true) : decOk s.data.toList = true := by
  have hne : s.data.toList.isEmpty = false := by
    cases h : s.data.toList with
    | nil => have := Lib.size_eq s; rw [h] at this; simp at this; exact absurd h0 (by rw [this]; exact Nat.lt_irrefl 0)
    | cons _ _ => rfl
  have hh : (decide (1 < s.data.toList.length) && s.data.toList.head? == some 48) = false := by
    rw [Bool.and_eq_false_iff]
    by_cases hl : 1 < s.size
    · right
      rw [List.head?_eq_getElem?, List.getElem?_eq_getElem (by simpa using h0)]
      have : ¬ s[0] = 48 := fun e => h1 ⟨hl, e⟩
      rw [beq_eq_false_iff_ne]
      intro e
      exact this (Option.some.inj e)
    · left
      simp
      have : s.size = s.data.size := rfl
      omega
  have ha : s.data.toList.all digB = true := List.all_eq_true.2 hall
  simp only [decOk, hne, hh, ha]
  rfl

end Go.Proofs.Ytpkjkhpnhcbciaa
