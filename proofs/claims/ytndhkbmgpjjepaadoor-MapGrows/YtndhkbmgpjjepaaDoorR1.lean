/- rec's isKey, checkVal, Check: whether a record may be. Own work; no statement. -/
import Derived.Test.YtndhkbmgpjjepaaDoorW14
set_option linter.unusedSimpArgs false
set_option linter.unusedVariables false
namespace Go.Proofs.YtndhkbmgpjjepaaDoor
open Go.RowKit

/-- A record, as plain data. -/
structure RecD where
  site : Int
  seq : Int
  dep : List Int
  key : ByteArray
  val : ByteArray

/-- In the world w the value v reads as the record r. -/
def IsRec (w : World) (v : Value) (r : RecD) : Prop :=
  ∃ a cap, v = .agg #[.int .i64 r.site, .int .i64 r.seq, .slice a r.dep.length cap, .string r.key, .string r.val] ∧ IsNums .i64 w (.slice a r.dep.length cap) r.dep

theorem IsRec.below {w w' : World} {v : Value} {r : RecD} (h : IsRec w v r) (hb : Below w.heap.size w w') : IsRec w' v r := by
  obtain ⟨a, cap, rfl, hn⟩ := h
  exact ⟨a, cap, rfl, hn.below hb⟩

/-- A vector's slice, with its numbers' count. -/
theorem IsNums.form {k : IntKind} {w : World} {v : Value} {l : List Int} (h : IsNums k w v l) : ∃ a cap, v = .slice a l.length cap := by
  obtain ⟨a, cap, rfl, -, -⟩ := h
  exact ⟨a, cap, rfl⟩

def keyB (c : UInt8) : Bool := decide ((97 ≤ c.toNat ∧ c.toNat ≤ 122) ∨ (48 ≤ c.toNat ∧ c.toNat ≤ 57))
def isKeyL (l : List UInt8) : Bool := decide (1 ≤ l.length ∧ l.length ≤ 8) && l.all keyB
def valB (c : UInt8) : Bool := decide (33 ≤ c.toNat ∧ c.toNat ≤ 126)
def checkValL (l : List UInt8) : Int := if l.all valB then (if 16 < l.length then 4 else 0) else 2

theorem all_not {p : UInt8 → Bool} (s : ByteArray) (k : Nat) (h : k < s.size) (hd : p s[k] = false) : s.data.toList.all p = false := by
  have hm : s[k] ∈ s.data.toList := by
    have : s[k] = s.data.toList[k]'(by simpa using h) := rfl
    rw [this]
    exact List.getElem_mem _
  rw [List.all_eq_false]
  exact ⟨_, hm, by rw [hd]; simp⟩

theorem all_snoc {p : UInt8 → Bool} (s : ByteArray) (k : Nat) (h : k < s.size) (hall : ∀ c ∈ s.data.toList.take k, p c = true) (hd : p s[k] = true) : ∀ c ∈ s.data.toList.take (k + 1), p c = true := by
  intro c hc
  rw [take_snoc_byte s k h] at hc
  rcases List.mem_append.1 hc with hc | hc
  · exact hall c hc
  · rw [List.mem_singleton.1 hc]; exact hd

theorem all_end {p : UInt8 → Bool} (s : ByteArray) (k : Nat) (h : ¬ k < s.size) (hall : ∀ c ∈ s.data.toList.take k, p c = true) : s.data.toList.all p = true := by
  have e : s.data.toList.take k = s.data.toList := List.take_of_length_le (by rw [← Lib.size_eq]; omega)
  rw [e] at hall
  exact List.all_eq_true.2 hall

/-- As what Check tells of r: the number of the error. -/
def checkR (r : RecD) (s : Int) : Int :=
  if s < 1 ∨ 8 < s ∨ r.site < 0 ∨ s ≤ r.site ∨ r.seq < 1 ∨ 1048576 < r.seq then 1 else if checkL r.dep s = 0 then
    (if r.seq ≤ geti r.dep r.site then 13 else if isKeyL r.key.data.toList then checkValL r.val.data.toList else 3) else checkL r.dep s

theorem box_below (w : World) (o : Obj) : Below w.heap.size w (w.alloc o) := (Below.refl _ w).alloc (Nat.le_refl _) o

end Go.Proofs.YtndhkbmgpjjepaaDoor
