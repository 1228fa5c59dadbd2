/- The walks of the reference's digits and Number. Own work; no statement. -/
import Derived.Test.YthpahkcncjieiaaDoorWords2
set_option linter.unusedSimpArgs false
set_option linter.unusedVariables false
namespace Go.Proofs.YthpahkcncjieiaaDoor
open Go.RowKit Go.Shelf

theorem not_empty {s : ByteArray} (h : 0 < s.size) : s.toList.isEmpty = false := by
  rw [Lib.toList_data]
  cases e : s.data.toList with
  | nil => have h0 : ¬ s.size = 0 := by omega
           have := Lib.size_eq s; rw [e] at this; exact absurd this (by simpa using h0)
  | cons _ _ => rfl

set_option maxRecDepth 20000 in
set_option maxHeartbeats 1000000 in
theorem refDigits_calls (s : ByteArray) (w : World) (hs : s.size ≤ 1099511627776) :
    Calls Tryd.prog 49 #[.string s] w fun e w' => e = .returned (.bool (decOk s.data.toList)) ∧ w' = w := by
  obtain ⟨b, hb⟩ : ∃ b, decOk s.data.toList = b := ⟨_, rfl⟩
  rw [hb]
  have Hb := hide hb
  clear hb
  by_cases h0 : s.size = 0
  · have e : s = ⟨#[]⟩ := ByteArray.ext (Array.eq_empty_of_size_eq_zero h0)
    subst e
    have e2 : b = false := Hb.out.symm
    subst e2
    go_enter Tryd.func49, Tryd.ntmps49
    go_wp2_with fail
    go_ret
    exact ⟨rfl, rfl⟩
  · have hne := not_empty (s := s) (by omega)
    have h0' : 0 < s.size := by omega
    have h0I : (0 : Int) < (s.size : Int) := by omega
    by_cases h1 : 1 < s.size ∧ s[0] = 48
    · obtain ⟨h1, h2⟩ := h1
      have e := decOk_long s h1 h2
      have e2 : b = false := by rw [← Hb.out, e]
      subst e2
      have h1I : (1 : Int) < (s.size : Int) := by omega
      have h3 : (((s[0].toNat : Nat) : Int) == 48) = true := by rw [h2]; rfl
      clear e h2 h0
      go_enter Tryd.func49, Tryd.ntmps49
      go_wp2_with fail
      go_ret
      exact ⟨rfl, rfl⟩
    · have hcase : (((s[0].toNat : Nat) : Int) == 48) = true ∧ ¬ (1 : Int) < (s.size : Int) ∨ (((s[0].toNat : Nat) : Int) == 48) = false := by
        by_cases e : s[0] = 48
        · left
          exact ⟨by rw [e]; rfl, by intro h; exact h1 ⟨by omega, e⟩⟩
        · right
          rw [beq_eq_false_iff_ne]
          intro e'
          exact e (UInt8.toNat_inj.1 (by simp; omega))
      have H1 := hide h1
      clear h1 h0
      rcases hcase with ⟨hc1, hc2⟩ | hc1
      all_goals
        go_enter Tryd.func49, Tryd.ntmps49
        go_wp2_with fail
        go_loop [3] (fun i => ∃ k : Nat, k ≤ s.size ∧ i = .int .i64 (k : Int) ∧ ∀ c ∈ s.data.toList.take k, digB c = true) (fun i => s.size - (intOf i).toNat)
        case atStart => exact ⟨0, Nat.zero_le _, rfl, by simp⟩
        case round =>
          obtain ⟨k, hk, rfl, hall⟩ := hrel
          replace hall := hide hall
          by_cases hkl : k < s.size
          · have hlt : (k : Int) < (s.size : Int) := by omega
            have hts := hide (take_snoc_byte s k hkl)
            by_cases hd : 48 ≤ s[k].toNat ∧ s[k].toNat ≤ 57
            · have hd1 : ¬ ((s[k].toNat : Nat) : Int) < 48 := by omega
              have hd2 : ¬ 57 < ((s[k].toNat : Nat) : Int) := by omega
              have hdg := hide (show digB s[k] = true by unfold digB; simpa using hd)
              obtain ⟨hda, hdb⟩ := hd
              go_wp2_with fail
              refine ⟨⟨k + 1, by omega, by go_num, fun c hc => ?_⟩, by simp [intOf]; omega⟩
              rw [hts.out] at hc
              rcases List.mem_append.1 hc with hc | hc
              · exact hall.out c hc
              · rw [List.mem_singleton.1 hc]; exact hdg.out
            · have hno := decOk_not s k hkl (by unfold digB; simpa using hd)
              have e2 : b = false := by rw [← Hb.out, hno]
              subst e2
              clear hno
              by_cases hd1 : ((s[k].toNat : Nat) : Int) < 48
              · go_wp2_with fail
                go_ret
                exact ⟨rfl, rfl⟩
              · have hd2 : 57 < ((s[k].toNat : Nat) : Int) := by omega
                clear hd
                go_wp2_with fail
                go_ret
                exact ⟨rfl, rfl⟩
          · have e : s.data.toList.take k = s.data.toList := List.take_of_length_le (by rw [← Lib.size_eq]; omega)
            have hy : decOk s.data.toList = true := decOk_yes s h0' H1.out (by have := hall.out; rwa [e] at this)
            have e2 : b = true := by rw [← Hb.out, hy]
            subst e2
            clear hy e
            go_wp2_with fail
            go_ret
            exact ⟨rfl, rfl⟩

def numB (l : List UInt8) : Bool := decide (valTo l 0 ≤ 2147483647)
def numV (l : List UInt8) : Int := if valTo l 0 ≤ 2147483647 then valTo l 0 else 0

set_option maxRecDepth 20000 in
set_option maxHeartbeats 1000000 in
theorem refNumber_calls (s : ByteArray) (w : World) (hs : s.size ≤ 1099511627776) (hok : decOk s.data.toList = true) :
    Calls Tryd.prog 26 #[.string s] w fun e w' => e = .returned (.tuple #[.int .i64 (numV s.data.toList), .bool (numB s.data.toList)]) ∧ w' = w := by
  obtain ⟨n, b, hn, hb⟩ : ∃ n b, numV s.data.toList = n ∧ numB s.data.toList = b := ⟨_, _, rfl, rfl⟩
  rw [hn, hb]
  have Hn := hide hn
  have Hb := hide hb
  clear hn hb
  obtain ⟨hp1, hp2, hp3⟩ := decOk_parts hok
  have h0' : 0 < s.size := by rw [Lib.size_eq]; exact List.length_pos_iff.2 hp1
  have hne := not_empty h0'
  have h0I : (0 : Int) < (s.size : Int) := by omega
  have hcase : (((s[0].toNat : Nat) : Int) == 48) = true ∧ ¬ (1 : Int) < (s.size : Int) ∨ (((s[0].toNat : Nat) : Int) == 48) = false := by
    by_cases e : s[0] = 48
    · left
      refine ⟨by rw [e]; rfl, fun h => hp2 (by rw [← Lib.size_eq]; omega) ?_⟩
      rw [List.head?_eq_getElem?, List.getElem?_eq_getElem (by rw [← Lib.size_eq]; exact h0')]
      exact congrArg some e
    · right
      rw [beq_eq_false_iff_ne]
      intro e'
      exact e (UInt8.toNat_inj.1 (by simp; omega))
  have hdig : ∀ k (h : k < s.size), 48 ≤ (s[k].toNat : Int) ∧ (s[k].toNat : Int) ≤ 57 := by
    intro k h
    have hm : s[k] ∈ s.data.toList := by
      have : s[k] = s.data.toList[k]'(by rw [← Lib.size_eq]; exact h) := rfl
      rw [this]
      exact List.getElem_mem _
    exact dig_range (hp3 _ hm)
  have htk : ∀ k, (∀ c ∈ s.data.toList.take k, digB c = true) := fun k c hc => hp3 c (List.mem_of_mem_take hc)
  have hmono : ∀ k, valTo (s.data.toList.take k) 0 ≤ valTo s.data.toList 0 := by
    intro k
    have e : valTo s.data.toList 0 = valTo (s.data.toList.drop k) (valTo (s.data.toList.take k) 0) := by rw [← valTo_app, List.take_append_drop]
    rw [e]
    exact valTo_ge _ _ (fun c hc => hp3 c (List.mem_of_mem_drop hc)) (valTo_ge _ 0 (htk k) (Int.le_refl _))
  replace hdig := hide hdig
  replace htk := hide htk
  replace hmono := hide hmono
  replace hp3 := hide hp3
  clear hp1 hp2 hok
  rcases hcase with ⟨hc1, hc2⟩ | hc1
  all_goals
    go_enter Tryd.func26, Tryd.ntmps26
    go_wp2_with fail
    go_loop [4, 5] (fun x i => ∃ k : Nat, k ≤ s.size ∧ i = .int .i64 (k : Int) ∧ x = .int .i64 (valTo (s.data.toList.take k) 0) ∧ valTo (s.data.toList.take k) 0 ≤ 2147483647) (fun _ i => s.size - (intOf i).toNat)
    case atStart => exact ⟨0, Nat.zero_le _, rfl, rfl, by simp [valTo]⟩
    case round =>
      obtain ⟨k, hk, rfl, rfl, hle⟩ := hrel
      have hge := valTo_ge _ 0 (htk.out k) (Int.le_refl _)
      by_cases hkl : k < s.size
      · have hlt : (k : Int) < (s.size : Int) := by omega
        have hsn := valTo_snoc (s.data.toList.take k) s[k] 0
        rw [← take_snoc_byte s k hkl] at hsn
        obtain ⟨hd1, hd2⟩ := hdig.out k hkl
        have hd3 : ¬ ((s[k].toNat : Nat) : Int) < 48 := by omega
        have hd4 : ¬ 57 < ((s[k].toNat : Nat) : Int) := by omega
        have hmk := hmono.out (k + 1)
        obtain ⟨x1, hx1⟩ : ∃ x1, valTo (s.data.toList.take (k + 1)) 0 = x1 := ⟨_, rfl⟩
        rw [hx1] at hsn hmk
        have Hx1 := hide hx1
        clear hx1
        generalize valTo (s.data.toList.take k) 0 = x at *
        by_cases hbig : 2147483647 < 10 * x + ((s[k].toNat : Int) - 48)
        · have hbb : ¬ valTo s.data.toList 0 ≤ 2147483647 := by omega
          have e1 : n = 0 := by rw [← Hn.out]; unfold numV; rw [if_neg hbb]
          have e2 : b = false := by rw [← Hb.out]; exact decide_eq_false hbb
          subst e1 e2
          clear hsn hmk hbb
          go_wp2_with fail
          go_ret2
          exact ⟨rfl, rfl⟩
        · replace hsn := hide hsn
          clear hmk
          go_wp2_with fail
          exact ⟨⟨k + 1, by omega, by go_num, by rw [Hx1.out, hsn.out], by rw [Hx1.out, hsn.out]; omega⟩, by simp [intOf]; omega⟩
      · have e : s.data.toList.take k = s.data.toList := List.take_of_length_le (by rw [← Lib.size_eq]; omega)
        rw [e] at hle hge ⊢
        clear e
        have e1 : n = valTo s.data.toList 0 := by rw [← Hn.out]; unfold numV; rw [if_pos hle]
        have e2 : b = true := by rw [← Hb.out]; exact decide_eq_true hle
        subst e1 e2
        go_wp2_with fail
        go_ret2
        exact ⟨rfl, rfl⟩

end Go.Proofs.YthpahkcncjieiaaDoor
