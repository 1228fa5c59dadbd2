/- num's Decimal and Parse: a number in words. Own work; no statement. -/
import Derived.Test.YtndhkbmgpjjepaaDoorW11
set_option linter.unusedSimpArgs false
set_option linter.unusedVariables false
namespace Go.Proofs.YtndhkbmgpjjepaaDoor
open Go.RowKit Go.Shelf

/-- Is it a digit? -/
def digB (c : UInt8) : Bool := decide (48 ≤ c.toNat ∧ c.toNat ≤ 57)
/-- Digits' number, but no more than MaxSeq + 1. -/
def decTo : List UInt8 → Int → Int
  | [], n => n
  | c :: r, n => decTo r (min (n * 10 + ((c.toNat : Int) - 48)) 1048577)
/-- Digits' number, but no more than m + 1. -/
def decToM (m : Int) : List UInt8 → Int → Int
  | [], n => n
  | c :: r, n => decToM m r (min (n * 10 + ((c.toNat : Int) - 48)) (m + 1))
theorem decToM_eq : ∀ (l : List UInt8) (n : Int), decToM 1048576 l n = decTo l n
  | [], _ => rfl
  | _ :: l, _ => decToM_eq l _
theorem decToM_snoc (m : Int) : ∀ (l : List UInt8) (c : UInt8) (n : Int), decToM m (l ++ [c]) n = min (decToM m l n * 10 + ((c.toNat : Int) - 48)) (m + 1)
  | [], _, _ => rfl
  | _ :: l, c, _ => decToM_snoc m l c _
/-- Digits, at least one, without leading noughts. -/
def decOk (l : List UInt8) : Bool := !l.isEmpty && !(decide (1 < l.length) && l.head? == some 48) && l.all digB

theorem decTo_snoc : ∀ (l : List UInt8) (c : UInt8) (n : Int), decTo (l ++ [c]) n = min (decTo l n * 10 + ((c.toNat : Int) - 48)) 1048577
  | [], _, _ => rfl
  | _ :: l, c, _ => decTo_snoc l c _

theorem decTo_range : ∀ (l : List UInt8) (n : Int), (∀ c ∈ l, digB c = true) → 0 ≤ n → n ≤ 1048577 → 0 ≤ decTo l n ∧ decTo l n ≤ 1048577
  | [], n, _, h0, h1 => ⟨h0, h1⟩
  | c :: l, n, h, h0, h1 => by
    have hc := h c (by simp)
    simp only [digB, decide_eq_true_eq] at hc
    exact decTo_range l _ (fun d hd => h d (by simp [hd])) (by omega) (by omega)

theorem decToM_range {m : Int} (hm : 0 ≤ m) : ∀ (l : List UInt8) (n : Int), (∀ c ∈ l, digB c = true) → 0 ≤ n → n ≤ m + 1 → 0 ≤ decToM m l n ∧ decToM m l n ≤ m + 1
  | [], n, _, h0, h1 => ⟨h0, h1⟩
  | c :: l, n, h, h0, h1 => by
    have hc := h c (by simp)
    simp only [digB, decide_eq_true_eq] at hc
    exact decToM_range hm l _ (fun d hd => h d (by simp [hd])) (by omega) (by omega)

theorem take_snoc_byte (s : ByteArray) (k : Nat) (h : k < s.size) : s.data.toList.take (k + 1) = s.data.toList.take k ++ [s[k]] := by
  rw [List.take_succ_eq_append_getElem (by simpa using h)]; rfl

theorem decOk_long (s : ByteArray) (h1 : 1 < s.size) (h0 : s[0] = 48) : decOk s.data.toList = false := by
  have : s.data.toList.head? = some 48 := by
    rw [List.head?_eq_getElem?, List.getElem?_eq_getElem (by simpa using (show 0 < s.size by omega))]
    exact congrArg some h0
  have hl : 1 < s.data.toList.length := by simpa using h1
  simp only [decOk, this, hl]
  simp

theorem decOk_not (s : ByteArray) (k : Nat) (h : k < s.size) (hd : digB s[k] = false) : decOk s.data.toList = false := by
  have hm : s[k] ∈ s.data.toList := by
    have : s[k] = s.data.toList[k]'(by simpa using h) := rfl
    rw [this]
    exact List.getElem_mem _
  have : s.data.toList.all digB = false := by
    rw [List.all_eq_false]
    exact ⟨_, hm, by rw [hd]; simp⟩
  simp [decOk, this]

theorem decOk_yes (s : ByteArray) (h0 : 0 < s.size) (h1 : ¬ (1 < s.size ∧ s[0] = 48)) (hall : ∀ c ∈ s.data.toList, digB c = true) : decOk s.data.toList = true := by
  have hne : s.data.toList.isEmpty = false := by
    cases h : s.data.toList with
    | nil => have := Lib.size_eq s; rw [h] at this; simp at this; exact absurd h0 (by rw [this]; exact Nat.lt_irrefl 0)
    | cons _ _ => rfl
  have hh : (decide (1 < s.data.toList.length) && s.data.toList.head? == some 48) = false := by
    rw [Bool.and_eq_false_iff]
    by_cases hl : 1 < s.size
    · right
      rw [List.head?_eq_getElem?, List.getElem?_eq_getElem (by simpa using h0)]
      have : ¬ s[0] = 48 := fun e => h1 ⟨hl, e⟩
      rw [beq_eq_false_iff_ne]
      intro e
      exact this (Option.some.inj e)
    · left
      simp
      have : s.size = s.data.size := rfl
      omega
  have ha : s.data.toList.all digB = true := List.all_eq_true.2 hall
  simp only [decOk, hne, hh, ha]
  rfl

set_option maxHeartbeats 1000000 in
theorem decimalM_calls (m : Int) (s : ByteArray) (w : World) (hm : 0 ≤ m) (hm2 : m ≤ 2147483647) (hs : s.size ≤ 1099511627776) :
    Calls Tryd.prog 53 #[.string s, .int .i64 m] w fun e w' => e = .returned (.tuple #[.int .i64 (if decOk s.data.toList then decToM m s.data.toList 0 else 0), .bool (decOk s.data.toList)]) ∧ w' = w := by
  obtain ⟨n, b, hn, hb⟩ : ∃ n b, (if decOk s.data.toList then decToM m s.data.toList 0 else 0) = n ∧ decOk s.data.toList = b := ⟨_, _, rfl, rfl⟩
  rw [hn, hb]
  have Hn := hide hn
  have Hb := hide hb
  clear hn hb
  by_cases h0 : s.size = 0
  · have e : s = ⟨#[]⟩ := ByteArray.ext (Array.eq_empty_of_size_eq_zero h0)
    subst e
    have e1 : n = 0 := Hn.out.symm
    have e2 : b = false := Hb.out.symm
    subst e1 e2
    go_enter Tryd.func53, Tryd.ntmps53
    go_wp2
    go_ret2
    exact ⟨rfl, rfl⟩
  · have hne : s.toList.isEmpty = false := by
      rw [Lib.toList_data]
      cases h : s.data.toList with
      | nil => have := Lib.size_eq s; rw [h] at this; exact absurd this (by simpa using h0)
      | cons _ _ => rfl
    have h0' : 0 < s.size := by omega
    have h0I : (0 : Int) < (s.size : Int) := by omega
    by_cases h1 : 1 < s.size ∧ s[0] = 48
    · obtain ⟨h1, h2⟩ := h1
      have e := decOk_long s h1 h2
      have e1 : n = 0 := by rw [← Hn.out, e]; rfl
      have e2 : b = false := by rw [← Hb.out, e]
      subst e1 e2
      have h1I : (1 : Int) < (s.size : Int) := by omega
      have h3 : (((s[0].toNat : Nat) : Int) == 48) = true := by rw [h2]; rfl
      clear e h2 h0
      go_enter Tryd.func53, Tryd.ntmps53
      go_wp2
      go_ret2
      exact ⟨rfl, rfl⟩
    · have hcase : ((1 : Int) < (s.size : Int) → (((s[0].toNat : Nat) : Int) == 48) = false) := by
        intro hl
        rw [beq_eq_false_iff_ne]
        intro e
        exact h1 ⟨by omega, UInt8.toNat_inj.1 (by simp; omega)⟩
      have H1 := hide h1
      clear h1 h0
      by_cases hl : (1 : Int) < (s.size : Int)
      case' pos => have hc48 := hcase hl
      all_goals
        clear hcase
        go_enter Tryd.func53, Tryd.ntmps53
        go_wp2
        go_loop [6, 23] (fun x i => ∃ k : Nat, k ≤ s.size ∧ i = .int .i64 (k : Int) ∧ x = .int .i64 (decToM m (s.data.toList.take k) 0) ∧ ∀ c ∈ s.data.toList.take k, digB c = true) (fun _ i => s.size - (intOf i).toNat)
        case atStart => exact ⟨0, Nat.zero_le _, rfl, rfl, by simp⟩
        case round =>
          obtain ⟨k, hk, rfl, rfl, hall⟩ := hrel
          have hr := decToM_range hm _ 0 hall (by omega) (by omega)
          replace hall := hide hall
          by_cases hkl : k < s.size
          · have hlt : (k : Int) < (s.size : Int) := by omega
            have hsn := decToM_snoc m (s.data.toList.take k) s[k] 0
            rw [← take_snoc_byte s k hkl] at hsn
            have hts := hide (take_snoc_byte s k hkl)
            replace hsn := hide hsn
            generalize decToM m (s.data.toList.take k) 0 = x at hr hsn
            obtain ⟨hr0, hr1⟩ := hr
            by_cases hd : 48 ≤ s[k].toNat ∧ s[k].toNat ≤ 57
            · have hd1 : ¬ ((s[k].toNat : Nat) : Int) < 48 := by omega
              have hd2 : ¬ 57 < ((s[k].toNat : Nat) : Int) := by omega
              have hdg := hide (show digB s[k] = true by unfold digB; simpa using hd)
              obtain ⟨hda, hdb⟩ := hd
              go_wp2
              refine ⟨⟨k + 1, by omega, by go_num, by rw [hsn.out], fun c hc => ?_⟩, by simp [intOf]; omega⟩
              rw [hts.out] at hc
              rcases List.mem_append.1 hc with hc | hc
              · exact hall.out c hc
              · rw [List.mem_singleton.1 hc]; exact hdg.out
            · have hno := decOk_not s k hkl (by unfold digB; simpa using hd)
              have e1 : n = 0 := by rw [← Hn.out, hno]; rfl
              have e2 : b = false := by rw [← Hb.out, hno]
              subst e1 e2
              clear hno
              by_cases hd1 : ((s[k].toNat : Nat) : Int) < 48
              · go_wp2
                go_ret2
                exact ⟨rfl, rfl⟩
              · have hd2 : 57 < ((s[k].toNat : Nat) : Int) := by omega
                clear hd
                go_wp2
                go_ret2
                exact ⟨rfl, rfl⟩
          · have e : s.data.toList.take k = s.data.toList := List.take_of_length_le (by rw [← Lib.size_eq]; omega)
            have hy : decOk s.data.toList = true := decOk_yes s h0' H1.out (by have := hall.out; rwa [e] at this)
            have e1 : n = decToM m (s.data.toList.take k) 0 := by rw [← Hn.out, hy, e]; rfl
            have e2 : b = true := by rw [← Hb.out, hy]
            subst e1 e2
            clear hy e
            go_wp2
            go_ret2
            exact ⟨rfl, rfl⟩

theorem decimal_calls (s : ByteArray) (w : World) (hs : s.size ≤ 1099511627776) :
    Calls Tryd.prog 53 #[.string s, .int .i64 1048576] w fun e w' => e = .returned (.tuple #[.int .i64 (if decOk s.data.toList then decTo s.data.toList 0 else 0), .bool (decOk s.data.toList)]) ∧ w' = w := by
  have h := decimalM_calls 1048576 s w (by omega) (by omega) hs
  rw [decToM_eq] at h
  exact h

/-- A number up to 2^31 - 1 in words: the number, and whether it is one. -/
def numL (l : List UInt8) : Int × Bool := if decOk l = true ∧ decToM 2147483647 l 0 ≤ 2147483647 then (decToM 2147483647 l 0, true) else (0, false)

set_option maxHeartbeats 1000000 in
theorem numParse_calls (s : ByteArray) (w : World) (hs : s.size ≤ 1099511627776) :
    Calls Tryd.prog 44 #[.string s] w fun e w' => e = .returned (.tuple #[.int .i64 (numL s.data.toList).1, .bool (numL s.data.toList).2]) ∧ w' = w := by
  obtain ⟨p, hp⟩ : ∃ p, numL s.data.toList = p := ⟨_, rfl⟩
  rw [hp]
  unfold numL at hp
  have hd := decimalM_calls 2147483647 s w (by omega) (by omega) hs
  generalize decToM 2147483647 s.data.toList 0 = n at hp hd
  cases hk : decOk s.data.toList with
  | false =>
    rw [hk] at hp hd
    rw [if_neg (by simp)] at hp
    rw [if_neg (by simp)] at hd
    subst hp
    have Hd := hide hd
    clear hd hk
    go_enter Tryd.func44, Tryd.ntmps44
    go_wp2_with (go_at_call 53; refine Hd.out.mono ?_; rintro e w' ⟨rfl, rfl⟩)
    go_ret2
    exact ⟨rfl, rfl⟩
  | true =>
    rw [hk] at hp hd
    rw [if_pos rfl] at hd
    have Hd := hide hd
    clear hd hk
    by_cases hn : n ≤ 2147483647
    · rw [if_pos ⟨rfl, hn⟩] at hp
      subst hp
      have hn' : ¬ 2147483647 < n := by omega
      clear hn
      go_enter Tryd.func44, Tryd.ntmps44
      go_wp2_with (go_at_call 53; refine Hd.out.mono ?_; rintro e w' ⟨rfl, rfl⟩)
      go_ret2
      exact ⟨rfl, rfl⟩
    · rw [if_neg (by omega)] at hp
      subst hp
      have hn' : 2147483647 < n := by omega
      clear hn
      go_enter Tryd.func44, Tryd.ntmps44
      go_wp2_with (go_at_call 53; refine Hd.out.mono ?_; rintro e w' ⟨rfl, rfl⟩)
      go_ret2
      exact ⟨rfl, rfl⟩

end Go.Proofs.YtndhkbmgpjjepaaDoor
