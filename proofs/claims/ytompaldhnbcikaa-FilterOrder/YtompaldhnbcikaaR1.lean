/- rec's isKey, checkVal, Check: whether a record may be. Own work; no statement. -/
import Derived.Test.YtompaldhnbcikaaW14
set_option linter.unusedSimpArgs false
set_option linter.unusedVariables false
namespace Go.Proofs.Ytompaldhnbcikaa
open Go.RowKit

/-- A record, as plain data. -/
structure RecD where
  site : Int
  seq : Int
  dep : List Int
  key : ByteArray
  val : ByteArray

/-- In the world w the value v reads as the record r. -/
def IsRec (w : World) (v : Value) (r : RecD) : Prop :=
  ∃ a cap, v = .agg #[.int .i64 r.site, .int .i64 r.seq, .slice a r.dep.length cap, .string r.key, .string r.val] ∧ IsNums .i64 w (.slice a r.dep.length cap) r.dep

theorem IsRec.below {w w' : World} {v : Value} {r : RecD} (h : IsRec w v r) (hb : Below w.heap.size w w') : IsRec w' v r := by
  obtain ⟨a, cap, rfl, hn⟩ := h
  exact ⟨a, cap, rfl, hn.below hb⟩

/-- A vector's slice, with its numbers' count. -/
theorem IsNums.form {k : IntKind} {w : World} {v : Value} {l : List Int} (h : IsNums k w v l) : ∃ a cap, v = .slice a l.length cap := by
  obtain ⟨a, cap, rfl, -, -⟩ := h
  exact ⟨a, cap, rfl⟩

def keyB (c : UInt8) : Bool := decide ((97 ≤ c.toNat ∧ c.toNat ≤ 122) ∨ (48 ≤ c.toNat ∧ c.toNat ≤ 57))
def isKeyL (l : List UInt8) : Bool := decide (1 ≤ l.length ∧ l.length ≤ 8) && l.all keyB
def valB (c : UInt8) : Bool := decide (33 ≤ c.toNat ∧ c.toNat ≤ 126)
def checkValL (l : List UInt8) : Int := if l.all valB then (if 16 < l.length then 4 else 0) else 2

theorem all_not {p : UInt8 → Bool} (s : ByteArray) (k : Nat) (h : k < s.size) (hd : p s[k] = false) : s.data.toList.all p = false := by
  have hm : s[k] ∈ s.data.toList := by
    have : s[k] = s.data.toList[k]'(by simpa using h) := rfl
    rw [this]
    exact List.getElem_mem _
  rw [List.all_eq_false]
  exact ⟨_, hm, by rw [hd]; simp⟩

theorem all_snoc {p : UInt8 → Bool} (s : ByteArray) (k : Nat) (h : k < s.size) (hall : ∀ c ∈ s.data.toList.take k, p c = true) (hd : p s[k] = true) : ∀ c ∈ s.data.toList.take (k + 1), p c = true := by
  intro c hc
  rw [take_snoc_byte s k h] at hc
  rcases List.mem_append.1 hc with hc | hc
  · exact hall c hc
  · rw [List.mem_singleton.1 hc]; exact hd

theorem all_end {p : UInt8 → Bool} (s : ByteArray) (k : Nat) (h : ¬ k < s.size) (hall : ∀ c ∈ s.data.toList.take k, p c = true) : s.data.toList.all p = true := by
  have e : s.data.toList.take k = s.data.toList := List.take_of_length_le (by rw [← Lib.size_eq]; omega)
  rw [e] at hall
  exact List.all_eq_true.2 hall

set_option maxHeartbeats 1000000 in
theorem isKey_calls (s : ByteArray) (w : World) (hs : s.size ≤ 1099511627776) :
    Calls Try.prog 37 #[.string s] w fun e w' => e = .returned (.bool (isKeyL s.data.toList)) ∧ w' = w := by
  obtain ⟨b, hb⟩ : ∃ b, isKeyL s.data.toList = b := ⟨_, rfl⟩
  rw [hb]
  unfold isKeyL at hb
  rw [← Lib.size_eq] at hb
  have Hb := hide hb
  clear hb
  by_cases h1 : (s.size : Int) < 1
  · have e : b = false := by rw [← Hb.out, decide_eq_false (by omega)]; rfl
    subst e
    go_enter Try.func37, Try.ntmps37
    go_wp2
    go_ret
    exact ⟨rfl, rfl⟩
  · by_cases h8 : 8 < (s.size : Int)
    · have e : b = false := by rw [← Hb.out, decide_eq_false (by omega)]; rfl
      subst e
      go_enter Try.func37, Try.ntmps37
      go_wp2
      go_ret
      exact ⟨rfl, rfl⟩
    · have e : s.data.toList.all keyB = b := by rw [← Hb.out, decide_eq_true (by omega)]; rfl
      clear Hb
      replace e := hide e
      go_enter Try.func37, Try.ntmps37
      go_wp2
      go_loop [15] (fun i => ∃ k : Nat, k ≤ s.size ∧ i = .int .i64 (k : Int) ∧ ∀ c ∈ s.data.toList.take k, keyB c = true) (fun i => s.size - (intOf i).toNat)
      case atStart => exact ⟨0, Nat.zero_le _, rfl, by simp⟩
      case round =>
        obtain ⟨k, hk, rfl, hall⟩ := hrel
        replace hall := hide hall
        by_cases hkl : k < s.size
        · have hlt : (k : Int) < (s.size : Int) := by omega
          cases hd : keyB s[k] with
          | true =>
            have hsn := hide (all_snoc s k hkl hall.out hd)
            unfold keyB at hd
            simp only [decide_eq_true_eq] at hd
            by_cases h97 : ((s[k].toNat : Nat) : Int) < 97
            · have h48 : ¬ ((s[k].toNat : Nat) : Int) < 48 := by omega
              have h57 : ¬ 57 < ((s[k].toNat : Nat) : Int) := by omega
              clear hd
              go_wp2
              exact ⟨⟨k + 1, by omega, by go_num, hsn.out⟩, by simp [intOf]; omega⟩
            · have h122 : ¬ 122 < ((s[k].toNat : Nat) : Int) := by omega
              clear hd
              go_wp2
              exact ⟨⟨k + 1, by omega, by go_num, hsn.out⟩, by simp [intOf]; omega⟩
          | false =>
            have e2 : b = false := by rw [← e.out]; exact all_not s k hkl hd
            subst e2
            unfold keyB at hd
            simp only [decide_eq_false_iff_not] at hd
            by_cases h97 : ((s[k].toNat : Nat) : Int) < 97
            · by_cases h48 : ((s[k].toNat : Nat) : Int) < 48
              · clear hd
                go_wp2
                go_ret
                exact ⟨rfl, rfl⟩
              · have h57 : 57 < ((s[k].toNat : Nat) : Int) := by omega
                clear hd
                go_wp2
                go_ret
                exact ⟨rfl, rfl⟩
            · have h122 : 122 < ((s[k].toNat : Nat) : Int) := by omega
              have h48 : ¬ ((s[k].toNat : Nat) : Int) < 48 := by omega
              have h57 : 57 < ((s[k].toNat : Nat) : Int) := by omega
              clear hd
              go_wp2
              go_ret
              exact ⟨rfl, rfl⟩
        · have e2 : b = true := by rw [← e.out]; exact all_end s k hkl hall.out
          subst e2
          go_wp2
          go_ret
          exact ⟨rfl, rfl⟩

set_option maxHeartbeats 1000000 in
theorem checkVal_calls (s : ByteArray) (w : World) (hs : s.size ≤ 1099511627776) :
    Calls Try.prog 38 #[.string s] w fun e w' => e = .returned (.int .i64 (checkValL s.data.toList)) ∧ w' = w := by
  obtain ⟨b, hb⟩ : ∃ b, checkValL s.data.toList = b := ⟨_, rfl⟩
  rw [hb]
  unfold checkValL at hb
  rw [← Lib.size_eq] at hb
  have Hb := hide hb
  clear hb
  go_enter Try.func38, Try.ntmps38
  go_wp2
  go_loop [6] (fun i => ∃ k : Nat, k ≤ s.size ∧ i = .int .i64 (k : Int) ∧ ∀ c ∈ s.data.toList.take k, valB c = true) (fun i => s.size - (intOf i).toNat)
  case atStart => exact ⟨0, Nat.zero_le _, rfl, by simp⟩
  case round =>
    obtain ⟨k, hk, rfl, hall⟩ := hrel
    replace hall := hide hall
    by_cases hkl : k < s.size
    · have hlt : (k : Int) < (s.size : Int) := by omega
      cases hd : valB s[k] with
      | true =>
        have hsn := hide (all_snoc s k hkl hall.out hd)
        unfold valB at hd
        simp only [decide_eq_true_eq] at hd
        have h33 : ¬ ((s[k].toNat : Nat) : Int) < 33 := by omega
        have h126 : ¬ 126 < ((s[k].toNat : Nat) : Int) := by omega
        clear hd
        go_wp2
        exact ⟨⟨k + 1, by omega, by go_num, hsn.out⟩, by simp [intOf]; omega⟩
      | false =>
        have e2 : b = 2 := by rw [← Hb.out, all_not s k hkl hd]; rfl
        subst e2
        unfold valB at hd
        simp only [decide_eq_false_iff_not] at hd
        by_cases h33 : ((s[k].toNat : Nat) : Int) < 33
        · clear hd
          go_wp2
          go_ret
          exact ⟨rfl, rfl⟩
        · have h126 : 126 < ((s[k].toNat : Nat) : Int) := by omega
          clear hd
          go_wp2
          go_ret
          exact ⟨rfl, rfl⟩
    · have e2 := Hb.out
      rw [all_end s k hkl hall.out, if_pos rfl] at e2
      by_cases h16 : 16 < (s.size : Int)
      · rw [if_pos (by omega)] at e2
        subst e2
        go_wp2
        go_ret
        exact ⟨rfl, rfl⟩
      · rw [if_neg (by omega)] at e2
        subst e2
        go_wp2
        go_ret
        exact ⟨rfl, rfl⟩

/-- As what Check tells of r: the number of the error. -/
def checkR (r : RecD) (s : Int) : Int :=
  if s < 1 ∨ 8 < s ∨ r.site < 0 ∨ s ≤ r.site ∨ r.seq < 1 ∨ 1048576 < r.seq then 1 else if checkL r.dep s = 0 then
    (if r.seq ≤ geti r.dep r.site then 13 else if isKeyL r.key.data.toList then checkValL r.val.data.toList else 3) else checkL r.dep s

theorem box_below (w : World) (o : Obj) : Below w.heap.size w (w.alloc o) := (Below.refl _ w).alloc (Nat.le_refl _) o

end Go.Proofs.Ytompaldhnbcikaa
