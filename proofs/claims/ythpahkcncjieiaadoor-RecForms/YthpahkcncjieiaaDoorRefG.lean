/- The reference's Number at any text, and find. Own work; no statement. -/
import Derived.Test.YthpahkcncjieiaaDoorRefD
import Derived.Test.YthpahkcncjieiaaDoorRW
set_option linter.unusedSimpArgs false
set_option linter.unusedVariables false
namespace Go.Proofs.YthpahkcncjieiaaDoor
open Go.RowKit

theorem numL_val (l : List UInt8) : numL l = if decOk l = true ∧ valTo l 0 ≤ 2147483647 then (valTo l 0, true) else (0, false) := by
  unfold numL
  cases h : decOk l with
  | false => simp
  | true =>
    have hd := decToM_val (m := 2147483647) (by omega) l 0 (decOk_parts h).2.2 (Int.le_refl _)
    rw [show min (0 : Int) (2147483647 + 1) = 0 by omega] at hd
    rw [hd]
    by_cases hv : valTo l 0 ≤ 2147483647
    · rw [if_pos ⟨rfl, by omega⟩, if_pos ⟨rfl, hv⟩, show min (valTo l 0) (2147483647 + 1) = valTo l 0 by omega]
    · rw [if_neg (by omega), if_neg (by omega)]

theorem numL_bad {l : List UInt8} (h : decOk l = false) : numL l = (0, false) := by
  rw [numL_val, h]
  simp

set_option maxRecDepth 20000 in
set_option maxHeartbeats 2000000 in
theorem refNumberAny_calls (s : ByteArray) (w : World) (hs : s.size ≤ 1099511627776) :
    Calls Tryd.prog 26 #[.string s] w fun e w' => e = .returned (.tuple #[.int .i64 (numL s.data.toList).1, .bool (numL s.data.toList).2]) ∧ w' = w := by
  cases hok : decOk s.data.toList with
  | true =>
    have h := refNumber_calls s w hs hok
    have e : (numV s.data.toList, numB s.data.toList) = numL s.data.toList := by
      rw [numL_val, hok]
      unfold numV numB
      by_cases hv : valTo s.data.toList 0 ≤ 2147483647
      · rw [if_pos hv, if_pos ⟨rfl, hv⟩, decide_eq_true hv]
      · rw [if_neg hv, if_neg (by omega), decide_eq_false hv]
    rw [← e]
    exact h
  | false =>
    rw [numL_bad hok]
    dsimp only
    by_cases h0 : s.size = 0
    · have e : s = ⟨#[]⟩ := ByteArray.ext (Array.eq_empty_of_size_eq_zero h0)
      subst e
      clear hok
      go_enter Tryd.func26, Tryd.ntmps26
      go_wp2_with fail
      go_ret2
      exact ⟨rfl, rfl⟩
    · have h0' : 0 < s.size := by omega
      have hne := not_empty h0'
      have h0I : (0 : Int) < (s.size : Int) := by omega
      by_cases h48 : (((s[0].toNat : Nat) : Int) == 48) = true
      · by_cases h1 : (1 : Int) < (s.size : Int)
        · clear hok h0
          go_enter Tryd.func26, Tryd.ntmps26
          go_wp2_with fail
          go_ret2
          exact ⟨rfl, rfl⟩
        · exfalso
          have e0 : s[0] = 48 := UInt8.toNat_inj.1 (by simp at h48; simp; omega)
          have hl : s.data.toList = [48] := by
            have hlen : s.data.toList.length = 1 := by rw [← Lib.size_eq]; omega
            match hh : s.data.toList, hlen with
            | [x], _ =>
              have : s[0] = s.data.toList[0]'(by rw [hh]; simp) := rfl
              rw [e0] at this
              simp [hh] at this
              rw [this]
          rw [hl] at hok
          revert hok
          decide
      · have h48' : (((s[0].toNat : Nat) : Int) == 48) = false := by simpa using h48
        have hnz : ¬ (1 < s.size ∧ s[0] = 48) := fun h => by rw [h.2] at h48; exact h48 rfl
        have Hnz := hide hnz
        have Hok := hide hok
        clear h48 hnz hok h0
        go_enter Tryd.func26, Tryd.ntmps26
        go_wp2_with fail
        go_loop [4, 5] (fun x i => ∃ k : Nat, k ≤ s.size ∧ i = .int .i64 (k : Int) ∧ x = .int .i64 (valTo (s.data.toList.take k) 0) ∧ valTo (s.data.toList.take k) 0 ≤ 2147483647 ∧ ∀ c ∈ s.data.toList.take k, digB c = true) (fun _ i => s.size - (intOf i).toNat)
        case atStart => exact ⟨0, Nat.zero_le _, rfl, rfl, by simp [valTo], by simp⟩
        case round =>
          obtain ⟨k, hk, rfl, rfl, hle, hall⟩ := hrel
          have hge := valTo_ge _ 0 hall (Int.le_refl _)
          replace hall := hide hall
          by_cases hkl : k < s.size
          · have hlt : (k : Int) < (s.size : Int) := by omega
            have hsn := valTo_snoc (s.data.toList.take k) s[k] 0
            rw [← take_snoc_byte s k hkl] at hsn
            replace hsn := hide hsn
            generalize valTo (s.data.toList.take k) 0 = x at *
            cases hd : digB s[k] with
            | true =>
              have hall2 := hide (all_snoc s k hkl hall.out hd)
              have hd' := dig_range hd
              have hd3 : ¬ ((s[k].toNat : Nat) : Int) < 48 := by omega
              have hd4 : ¬ 57 < ((s[k].toNat : Nat) : Int) := by omega
              clear hd
              obtain ⟨hda, hdb⟩ := hd'
              by_cases hbig : 2147483647 < 10 * x + ((s[k].toNat : Int) - 48)
              · go_wp2_with fail
                go_ret2
                exact ⟨rfl, rfl⟩
              · go_wp2_with fail
                exact ⟨⟨k + 1, by omega, by go_num, by rw [hsn.out], by rw [hsn.out]; omega, hall2.out⟩, by simp [intOf]; omega⟩
            | false =>
              unfold digB at hd
              simp only [decide_eq_false_iff_not] at hd
              by_cases hd1 : ((s[k].toNat : Nat) : Int) < 48
              · clear hd
                go_wp2_with fail
                go_ret2
                exact ⟨rfl, rfl⟩
              · have hd2 : 57 < ((s[k].toNat : Nat) : Int) := by omega
                clear hd
                go_wp2_with fail
                go_ret2
                exact ⟨rfl, rfl⟩
          · exfalso
            have e : s.data.toList.take k = s.data.toList := List.take_of_length_le (by rw [← Lib.size_eq]; omega)
            have := decOk_yes s h0' Hnz.out (by have := hall.out; rwa [e] at this)
            rw [Hok.out] at this
            cases this

/-- Where a byte stands first, from a place on. -/
def findL (l : List UInt8) (c : UInt8) (i : Nat) : Int := if Lib.indexByte (l.drop i) c = -1 then -1 else i + Lib.indexByte (l.drop i) c

theorem index_none : ∀ (l : List UInt8) (c : UInt8), (∀ x ∈ l, x ≠ c) → Lib.indexByte l c = -1
  | [], _, _ => rfl
  | x :: l, c, h => by
    have hx : (x == c) = false := by simpa using h x (by simp)
    simp [Lib.indexByte, hx, index_none l c (fun y hy => h y (by simp [hy]))]

theorem find_hit (s : ByteArray) (c : UInt8) (i k : Nat) (hi : i ≤ k) (hk : k < s.size) (h : ∀ j (hj : j < s.size), i ≤ j → j < k → s[j] ≠ c) (hc : s[k] = c) : findL s.data.toList c i = k := by
  have hl : k < s.data.toList.length := by rw [← Lib.size_eq]; exact hk
  have e : s.data.toList.drop i = ((s.data.toList.drop i).take (k - i)) ++ c :: s.data.toList.drop (k + 1) := by
    have h1 : s.data.toList.drop k = c :: s.data.toList.drop (k + 1) := by
      rw [List.drop_eq_getElem_cons hl]
      congr 1
    rw [← h1]
    conv => lhs; rw [← List.take_append_drop (k - i) (s.data.toList.drop i)]
    rw [List.drop_drop, show i + (k - i) = k by omega]
  have hlen : ((s.data.toList.drop i).take (k - i)).length = k - i := by simp; omega
  have := index_at ((s.data.toList.drop i).take (k - i)) (s.data.toList.drop (k + 1)) c (by
    intro x hx
    obtain ⟨j, hj, rfl⟩ := List.mem_iff_getElem.1 hx
    rw [hlen] at hj
    have := h (i + j) (by omega) (by omega) (by omega)
    simp
    exact this)
  rw [← e, hlen] at this
  unfold findL
  rw [this, if_neg (by omega)]
  omega

theorem find_miss (s : ByteArray) (c : UInt8) (i : Nat) (h : ∀ j (hj : j < s.size), i ≤ j → s[j] ≠ c) : findL s.data.toList c i = -1 := by
  unfold findL
  rw [if_pos]
  apply index_none
  intro x hx
  obtain ⟨j, hj, rfl⟩ := List.mem_iff_getElem.1 hx
  have hj' : i + j < s.size := by rw [Lib.size_eq]; simp at hj; simp; omega
  have := h (i + j) hj' (by omega)
  simp
  exact this

set_option maxHeartbeats 1000000 in
theorem refFind_calls (s : ByteArray) (c : UInt8) (i : Nat) (w : World) (hs : s.size ≤ 1099511627776) (hi : i ≤ 1099511627776) :
    Calls Tryd.prog 25 #[.string s, .int .u8 (c.toNat : Int), .int .i64 (i : Int)] w fun e w' => e = .returned (.int .i64 (findL s.data.toList c i)) ∧ w' = w := by
  obtain ⟨r, hr⟩ : ∃ r, findL s.data.toList c i = r := ⟨_, rfl⟩
  rw [hr]
  have Hr := hide hr
  clear hr
  go_enter Tryd.func25, Tryd.ntmps25
  go_wp2_with fail
  go_loop [7] (fun x => ∃ k : Nat, i ≤ k ∧ (k ≤ s.size ∨ k = i) ∧ x = .int .i64 (k : Int) ∧ ∀ j (hj : j < s.size), i ≤ j → j < k → s[j] ≠ c) (fun x => s.size - (intOf x).toNat)
  case atStart => exact ⟨i, Nat.le_refl _, .inr rfl, rfl, fun j _ h1 h2 => by omega⟩
  case round =>
    obtain ⟨k, hik, hks, rfl, hall⟩ := hrel
    replace hall := hide hall
    by_cases hkl : k < s.size
    · have hlt : (k : Int) < (s.size : Int) := by omega
      by_cases hc : s[k] = c
      · have e : r = k := by rw [← Hr.out]; exact find_hit s c i k hik hkl hall.out hc
        subst e
        have hc' : (((s[k].toNat : Nat) : Int) == ((c.toNat : Nat) : Int)) = true := by rw [hc]; simp
        clear hc hks
        go_wp2_with fail
        go_ret
        exact ⟨rfl, rfl⟩
      · have hc' : (((s[k].toNat : Nat) : Int) == ((c.toNat : Nat) : Int)) = false := by
          rw [beq_eq_false_iff_ne]
          intro e
          exact hc (UInt8.toNat_inj.1 (by omega))
        replace hc := hide hc
        clear hks
        go_wp2_with fail
        refine ⟨⟨k + 1, by omega, .inl (by omega), by go_num, fun j hj h1 h2 => ?_⟩, by simp [intOf]; omega⟩
        by_cases e : j = k
        · subst e
          exact hc.out
        · exact hall.out j hj h1 (by omega)
    · have e : r = -1 := by rw [← Hr.out]; exact find_miss s c i (fun j hj h1 => hall.out j hj h1 (by omega))
      subst e
      have hlt : ¬ (k : Int) < (s.size : Int) := by omega
      clear hkl hks
      go_wp2_with fail
      go_ret
      exact ⟨rfl, rfl⟩

end Go.Proofs.YthpahkcncjieiaaDoor
