/- The walk of RecKeys. Own work; no statement. -/
import Derived.Test.YtepadjcmmkglfabDoorR12
set_option linter.unusedSimpArgs false
set_option linter.unusedVariables false
namespace Go.Proofs.YtepadjcmmkglfabDoor
open Go.RowKit Go.Sort

theorem keys_check (key val : ByteArray) : checkR ⟨0, 1, [], key, val⟩ 1 = if isKeyL key.data.toList then checkValL val.data.toList else 3 := by
  unfold checkR
  dsimp only
  rw [if_neg (by omega), if_pos (by rfl), if_neg (by unfold geti; simp)]

def wantTo (l : List UInt8) : Int := if l.all valB then 0 else 2
theorem want_yes (s : ByteArray) (k : Nat) (h : k < s.size) (hd : valB s[k] = true) : wantTo (s.data.toList.take (k + 1)) = wantTo (s.data.toList.take k) := by
  unfold wantTo
  rw [take_snoc_byte s k h, List.all_append]
  simp [hd]
theorem want_no (s : ByteArray) (k : Nat) (h : k < s.size) (hd : valB s[k] = false) : wantTo (s.data.toList.take (k + 1)) = 2 := by
  unfold wantTo
  rw [take_snoc_byte s k h, List.all_append]
  simp [hd]
theorem goodTo_snoc (b : Bool) (s : ByteArray) (k : Nat) (h : k < s.size) : (b && (s.data.toList.take (k + 1)).all keyB) = ((b && (s.data.toList.take k).all keyB) && keyB s[k]) := by
  rw [take_snoc_byte s k h, List.all_append]
  simp [Bool.and_assoc]
theorem take_all_bytes (s : ByteArray) (k : Nat) (h : ¬ k < s.size) : s.data.toList.take k = s.data.toList := List.take_of_length_le (by rw [← Lib.size_eq]; omega)

set_option maxRecDepth 100000 in
set_option maxHeartbeats 8000000 in
theorem recKeys_main (key val : ByteArray) (w : World) (hk : key.size ≤ maxLen) (hv : val.size ≤ maxLen) (hp : Pow w) :
    Calls Tryd.prog 8 #[.string key, .string val] w fun e w' => e = .returned (.bool true) ∧ Below w.heap.size w w' := by
  clear hk hv
  by_cases h1 : 50 < (key.size : Int)
  · go_enter Tryd.func8, Tryd.ntmps8
    go_wp2_with fail
    refine (recKnown_calls _ hp).mono ?_
    rintro e w1 ⟨rfl, hB⟩
    go_wp2_with fail
    go_ret
    exact ⟨rfl, hB⟩
  · by_cases h2 : 50 < (val.size : Int)
    · go_enter Tryd.func8, Tryd.ntmps8
      go_wp2_with fail
      refine (recKnown_calls _ hp).mono ?_
      rintro e w1 ⟨rfl, hB⟩
      go_wp2_with fail
      go_ret
      exact ⟨rfl, hB⟩
    · go_enter Tryd.func8, Tryd.ntmps8
      go_wp2_with fail
      refine (recKnown_calls _ hp).mono ?_
      rintro e w1 ⟨rfl, hB⟩
      go_wp2_with fail
      go_loop [5, 6] (fun x i => ∃ k : Nat, k ≤ val.size ∧ i = .int .i64 (k : Int) ∧ x = .int .i64 (wantTo (val.data.toList.take k))) (fun _ i => val.size - (intOf i).toNat)
      case atStart => exact ⟨0, Nat.zero_le _, rfl, rfl⟩
      case round =>
        obtain ⟨k, hkn, rfl, rfl⟩ := hrel
        by_cases hkl : k < val.size
        · have hlt : (k : Int) < (val.size : Int) := by omega
          cases hd : valB val[k] with
          | true =>
            have hw := hide (want_yes val k hkl hd)
            unfold valB at hd
            simp only [decide_eq_true_eq] at hd
            have h33 : ¬ ((val[k].toNat : Nat) : Int) < 33 := by omega
            have h126 : ¬ 126 < ((val[k].toNat : Nat) : Int) := by omega
            clear hd
            generalize wantTo (val.data.toList.take k) = x at *
            go_wp2_with fail
            exact ⟨⟨k + 1, by omega, by go_num, by rw [hw.out]⟩, by simp [intOf]; omega⟩
          | false =>
            have hw := hide (want_no val k hkl hd)
            unfold valB at hd
            simp only [decide_eq_false_iff_not] at hd
            generalize wantTo (val.data.toList.take k) = x at *
            by_cases h33 : ((val[k].toNat : Nat) : Int) < 33
            · clear hd
              go_wp2_with fail
              exact ⟨⟨k + 1, by omega, by go_num, by rw [hw.out]⟩, by simp [intOf]; omega⟩
            · have h126 : 126 < ((val[k].toNat : Nat) : Int) := by omega
              clear hd
              go_wp2_with fail
              exact ⟨⟨k + 1, by omega, by go_num, by rw [hw.out]⟩, by simp [intOf]; omega⟩
        · rw [take_all_bytes val k hkl]
          obtain ⟨g0, hg0⟩ : ∃ g0, decide (1 ≤ key.size ∧ key.size ≤ 8) = g0 := ⟨_, rfl⟩
          have Hg0 := hide hg0
          have hck := keys_check key val
          obtain ⟨cv, hcv⟩ : ∃ cv, checkValL val.data.toList = cv := ⟨_, rfl⟩
          rw [hcv] at hck
          have hcv' : (if val.data.toList.all valB then (if 16 < val.size then 4 else 0) else 2) = cv := by rw [← hcv]; unfold checkValL; rw [Lib.size_eq]
          have Hcv := hide hcv'
          have Hck := hide hck
          clear hcv hcv' hck hg0
          have fin : ∀ (K : Nat), ¬ K < key.size → isKeyL key.data.toList = (g0 && (key.data.toList.take K).all keyB) := fun K hK => by
            rw [take_all_bytes key K hK]
            unfold isKeyL
            rw [← Lib.size_eq, Hg0.out]
          have Fin := hide fin
          clear fin
          have hkl' : ¬ (k : Int) < (val.size : Int) := by omega
          replace hkl := hide hkl
          unfold wantTo
          cases hall : val.data.toList.all valB with
          | false =>
            obtain rfl : 2 = cv := by rw [← Hcv.out, hall]; rfl
            clear hall Hcv
            by_cases k1 : 1 ≤ (key.size : Int)
            · by_cases k8 : (key.size : Int) ≤ 8
              · obtain rfl : g0 = true := by rw [← Hg0.out, decide_eq_true (by omega)]
                go_wp2_with fail
                go_loop [7, 8] (fun x i => ∃ K : Nat, K ≤ key.size ∧ i = .int .i64 (K : Int) ∧ x = .bool (true && (key.data.toList.take K).all keyB)) (fun _ i => key.size - (intOf i).toNat)
                case atStart => exact ⟨0, Nat.zero_le _, rfl, by simp⟩
                case round =>
                  obtain ⟨K, hKn, rfl, rfl⟩ := hrel
                  by_cases hKl : K < key.size
                  · have hlt : (K : Int) < (key.size : Int) := by omega
                    have hg := hide (goodTo_snoc true key K hKl)
                    generalize (true && (key.data.toList.take K).all keyB) = gk at *
                    cases gk with
                    | false =>
                      go_wp2_with fail
                      exact ⟨⟨K + 1, by omega, by go_num, by rw [hg.out]; rfl⟩, by simp [intOf]; omega⟩
                    | true =>
                      cases hd : keyB key[K] with
                      | true =>
                        rw [hd] at hg
                        unfold keyB at hd
                        simp only [decide_eq_true_eq] at hd
                        by_cases h97 : 97 ≤ ((key[K].toNat : Nat) : Int)
                        · have h122 : ((key[K].toNat : Nat) : Int) ≤ 122 := by omega
                          clear hd
                          go_wp2_with fail
                          exact ⟨⟨K + 1, by omega, by go_num, by rw [hg.out]; rfl⟩, by simp [intOf]; omega⟩
                        · have h48 : 48 ≤ ((key[K].toNat : Nat) : Int) := by omega
                          have h57 : ((key[K].toNat : Nat) : Int) ≤ 57 := by omega
                          clear hd
                          go_wp2_with fail
                          exact ⟨⟨K + 1, by omega, by go_num, by rw [hg.out]; rfl⟩, by simp [intOf]; omega⟩
                      | false =>
                        rw [hd] at hg
                        unfold keyB at hd
                        simp only [decide_eq_false_iff_not] at hd
                        by_cases h97 : 97 ≤ ((key[K].toNat : Nat) : Int)
                        · have h122 : ¬ ((key[K].toNat : Nat) : Int) ≤ 122 := by omega
                          have h48 : 48 ≤ ((key[K].toNat : Nat) : Int) := by omega
                          have h57 : ¬ ((key[K].toNat : Nat) : Int) ≤ 57 := by omega
                          clear hd
                          go_wp2_with fail
                          exact ⟨⟨K + 1, by omega, by go_num, by rw [hg.out]; simp⟩, by simp [intOf]; omega⟩
                        · by_cases h48 : 48 ≤ ((key[K].toNat : Nat) : Int)
                          · have h57 : ¬ ((key[K].toNat : Nat) : Int) ≤ 57 := by omega
                            clear hd
                            go_wp2_with fail
                            exact ⟨⟨K + 1, by omega, by go_num, by rw [hg.out]; simp⟩, by simp [intOf]; omega⟩
                          · clear hd
                            go_wp2_with fail
                            exact ⟨⟨K + 1, by omega, by go_num, by rw [hg.out]; simp⟩, by simp [intOf]; omega⟩
                  · have hik := Fin.out K hKl
                    generalize (true && (key.data.toList.take K).all keyB) = gk at *
                    have u := recCheck_calls _ ⟨0, 1, [], key, val⟩ 1 w1 ⟨none, 0, rfl, IsNums.nil _ _ _ _⟩ (by simp) (by dsimp only; omega) (by dsimp only; omega)
                    rw [Hck.out, hik] at u
                    cases gk with
                    | true =>
                      rw [if_pos rfl] at u
                      have U := hide u
                      clear u hik
                      go_wp2_with (go_at_call 21; refine U.out.mono ?_; rintro e w' ⟨rfl, hb⟩)
                      go_ret
                      exact ⟨by simp, hB.trans (hb.mono hB.size)⟩
                    | false =>
                      rw [if_neg (by simp)] at u
                      have U := hide u
                      clear u hik
                      go_wp2_with (go_at_call 21; refine U.out.mono ?_; rintro e w' ⟨rfl, hb⟩)
                      go_ret
                      exact ⟨by simp, hB.trans (hb.mono hB.size)⟩
              · obtain rfl : g0 = false := by rw [← Hg0.out, decide_eq_false (by omega)]
                go_wp2_with fail
                go_loop [7, 8] (fun x i => ∃ K : Nat, K ≤ key.size ∧ i = .int .i64 (K : Int) ∧ x = .bool (false && (key.data.toList.take K).all keyB)) (fun _ i => key.size - (intOf i).toNat)
                case atStart => exact ⟨0, Nat.zero_le _, rfl, by simp⟩
                case round =>
                  obtain ⟨K, hKn, rfl, rfl⟩ := hrel
                  by_cases hKl : K < key.size
                  · have hlt : (K : Int) < (key.size : Int) := by omega
                    have hg := hide (goodTo_snoc false key K hKl)
                    generalize (false && (key.data.toList.take K).all keyB) = gk at *
                    cases gk with
                    | false =>
                      go_wp2_with fail
                      exact ⟨⟨K + 1, by omega, by go_num, by rw [hg.out]; rfl⟩, by simp [intOf]; omega⟩
                    | true =>
                      cases hd : keyB key[K] with
                      | true =>
                        rw [hd] at hg
                        unfold keyB at hd
                        simp only [decide_eq_true_eq] at hd
                        by_cases h97 : 97 ≤ ((key[K].toNat : Nat) : Int)
                        · have h122 : ((key[K].toNat : Nat) : Int) ≤ 122 := by omega
                          clear hd
                          go_wp2_with fail
                          exact ⟨⟨K + 1, by omega, by go_num, by rw [hg.out]; rfl⟩, by simp [intOf]; omega⟩
                        · have h48 : 48 ≤ ((key[K].toNat : Nat) : Int) := by omega
                          have h57 : ((key[K].toNat : Nat) : Int) ≤ 57 := by omega
                          clear hd
                          go_wp2_with fail
                          exact ⟨⟨K + 1, by omega, by go_num, by rw [hg.out]; rfl⟩, by simp [intOf]; omega⟩
                      | false =>
                        rw [hd] at hg
                        unfold keyB at hd
                        simp only [decide_eq_false_iff_not] at hd
                        by_cases h97 : 97 ≤ ((key[K].toNat : Nat) : Int)
                        · have h122 : ¬ ((key[K].toNat : Nat) : Int) ≤ 122 := by omega
                          have h48 : 48 ≤ ((key[K].toNat : Nat) : Int) := by omega
                          have h57 : ¬ ((key[K].toNat : Nat) : Int) ≤ 57 := by omega
                          clear hd
                          go_wp2_with fail
                          exact ⟨⟨K + 1, by omega, by go_num, by rw [hg.out]; simp⟩, by simp [intOf]; omega⟩
                        · by_cases h48 : 48 ≤ ((key[K].toNat : Nat) : Int)
                          · have h57 : ¬ ((key[K].toNat : Nat) : Int) ≤ 57 := by omega
                            clear hd
                            go_wp2_with fail
                            exact ⟨⟨K + 1, by omega, by go_num, by rw [hg.out]; simp⟩, by simp [intOf]; omega⟩
                          · clear hd
                            go_wp2_with fail
                            exact ⟨⟨K + 1, by omega, by go_num, by rw [hg.out]; simp⟩, by simp [intOf]; omega⟩
                  · have hik := Fin.out K hKl
                    generalize (false && (key.data.toList.take K).all keyB) = gk at *
                    have u := recCheck_calls _ ⟨0, 1, [], key, val⟩ 1 w1 ⟨none, 0, rfl, IsNums.nil _ _ _ _⟩ (by simp) (by dsimp only; omega) (by dsimp only; omega)
                    rw [Hck.out, hik] at u
                    cases gk with
                    | true =>
                      rw [if_pos rfl] at u
                      have U := hide u
                      clear u hik
                      go_wp2_with (go_at_call 21; refine U.out.mono ?_; rintro e w' ⟨rfl, hb⟩)
                      go_ret
                      exact ⟨by simp, hB.trans (hb.mono hB.size)⟩
                    | false =>
                      rw [if_neg (by simp)] at u
                      have U := hide u
                      clear u hik
                      go_wp2_with (go_at_call 21; refine U.out.mono ?_; rintro e w' ⟨rfl, hb⟩)
                      go_ret
                      exact ⟨by simp, hB.trans (hb.mono hB.size)⟩
            · obtain rfl : g0 = false := by rw [← Hg0.out, decide_eq_false (by omega)]
              go_wp2_with fail
              go_loop [7, 8] (fun x i => ∃ K : Nat, K ≤ key.size ∧ i = .int .i64 (K : Int) ∧ x = .bool (false && (key.data.toList.take K).all keyB)) (fun _ i => key.size - (intOf i).toNat)
              case atStart => exact ⟨0, Nat.zero_le _, rfl, by simp⟩
              case round =>
                obtain ⟨K, hKn, rfl, rfl⟩ := hrel
                by_cases hKl : K < key.size
                · have hlt : (K : Int) < (key.size : Int) := by omega
                  have hg := hide (goodTo_snoc false key K hKl)
                  generalize (false && (key.data.toList.take K).all keyB) = gk at *
                  cases gk with
                  | false =>
                    go_wp2_with fail
                    exact ⟨⟨K + 1, by omega, by go_num, by rw [hg.out]; rfl⟩, by simp [intOf]; omega⟩
                  | true =>
                    cases hd : keyB key[K] with
                    | true =>
                      rw [hd] at hg
                      unfold keyB at hd
                      simp only [decide_eq_true_eq] at hd
                      by_cases h97 : 97 ≤ ((key[K].toNat : Nat) : Int)
                      · have h122 : ((key[K].toNat : Nat) : Int) ≤ 122 := by omega
                        clear hd
                        go_wp2_with fail
                        exact ⟨⟨K + 1, by omega, by go_num, by rw [hg.out]; rfl⟩, by simp [intOf]; omega⟩
                      · have h48 : 48 ≤ ((key[K].toNat : Nat) : Int) := by omega
                        have h57 : ((key[K].toNat : Nat) : Int) ≤ 57 := by omega
                        clear hd
                        go_wp2_with fail
                        exact ⟨⟨K + 1, by omega, by go_num, by rw [hg.out]; rfl⟩, by simp [intOf]; omega⟩
                    | false =>
                      rw [hd] at hg
                      unfold keyB at hd
                      simp only [decide_eq_false_iff_not] at hd
                      by_cases h97 : 97 ≤ ((key[K].toNat : Nat) : Int)
                      · have h122 : ¬ ((key[K].toNat : Nat) : Int) ≤ 122 := by omega
                        have h48 : 48 ≤ ((key[K].toNat : Nat) : Int) := by omega
                        have h57 : ¬ ((key[K].toNat : Nat) : Int) ≤ 57 := by omega
                        clear hd
                        go_wp2_with fail
                        exact ⟨⟨K + 1, by omega, by go_num, by rw [hg.out]; simp⟩, by simp [intOf]; omega⟩
                      · by_cases h48 : 48 ≤ ((key[K].toNat : Nat) : Int)
                        · have h57 : ¬ ((key[K].toNat : Nat) : Int) ≤ 57 := by omega
                          clear hd
                          go_wp2_with fail
                          exact ⟨⟨K + 1, by omega, by go_num, by rw [hg.out]; simp⟩, by simp [intOf]; omega⟩
                        · clear hd
                          go_wp2_with fail
                          exact ⟨⟨K + 1, by omega, by go_num, by rw [hg.out]; simp⟩, by simp [intOf]; omega⟩
                · have hik := Fin.out K hKl
                  generalize (false && (key.data.toList.take K).all keyB) = gk at *
                  have u := recCheck_calls _ ⟨0, 1, [], key, val⟩ 1 w1 ⟨none, 0, rfl, IsNums.nil _ _ _ _⟩ (by simp) (by dsimp only; omega) (by dsimp only; omega)
                  rw [Hck.out, hik] at u
                  cases gk with
                  | true =>
                    rw [if_pos rfl] at u
                    have U := hide u
                    clear u hik
                    go_wp2_with (go_at_call 21; refine U.out.mono ?_; rintro e w' ⟨rfl, hb⟩)
                    go_ret
                    exact ⟨by simp, hB.trans (hb.mono hB.size)⟩
                  | false =>
                    rw [if_neg (by simp)] at u
                    have U := hide u
                    clear u hik
                    go_wp2_with (go_at_call 21; refine U.out.mono ?_; rintro e w' ⟨rfl, hb⟩)
                    go_ret
                    exact ⟨by simp, hB.trans (hb.mono hB.size)⟩
          | true =>
            by_cases h16 : 16 < (val.size : Int)
            · obtain rfl : 4 = cv := by rw [← Hcv.out, hall, if_pos rfl, if_pos (by omega)]
              clear hall Hcv
              by_cases k1 : 1 ≤ (key.size : Int)
              · by_cases k8 : (key.size : Int) ≤ 8
                · obtain rfl : g0 = true := by rw [← Hg0.out, decide_eq_true (by omega)]
                  go_wp2_with fail
                  go_loop [7, 8] (fun x i => ∃ K : Nat, K ≤ key.size ∧ i = .int .i64 (K : Int) ∧ x = .bool (true && (key.data.toList.take K).all keyB)) (fun _ i => key.size - (intOf i).toNat)
                  case atStart => exact ⟨0, Nat.zero_le _, rfl, by simp⟩
                  case round =>
                    obtain ⟨K, hKn, rfl, rfl⟩ := hrel
                    by_cases hKl : K < key.size
                    · have hlt : (K : Int) < (key.size : Int) := by omega
                      have hg := hide (goodTo_snoc true key K hKl)
                      generalize (true && (key.data.toList.take K).all keyB) = gk at *
                      cases gk with
                      | false =>
                        go_wp2_with fail
                        exact ⟨⟨K + 1, by omega, by go_num, by rw [hg.out]; rfl⟩, by simp [intOf]; omega⟩
                      | true =>
                        cases hd : keyB key[K] with
                        | true =>
                          rw [hd] at hg
                          unfold keyB at hd
                          simp only [decide_eq_true_eq] at hd
                          by_cases h97 : 97 ≤ ((key[K].toNat : Nat) : Int)
                          · have h122 : ((key[K].toNat : Nat) : Int) ≤ 122 := by omega
                            clear hd
                            go_wp2_with fail
                            exact ⟨⟨K + 1, by omega, by go_num, by rw [hg.out]; rfl⟩, by simp [intOf]; omega⟩
                          · have h48 : 48 ≤ ((key[K].toNat : Nat) : Int) := by omega
                            have h57 : ((key[K].toNat : Nat) : Int) ≤ 57 := by omega
                            clear hd
                            go_wp2_with fail
                            exact ⟨⟨K + 1, by omega, by go_num, by rw [hg.out]; rfl⟩, by simp [intOf]; omega⟩
                        | false =>
                          rw [hd] at hg
                          unfold keyB at hd
                          simp only [decide_eq_false_iff_not] at hd
                          by_cases h97 : 97 ≤ ((key[K].toNat : Nat) : Int)
                          · have h122 : ¬ ((key[K].toNat : Nat) : Int) ≤ 122 := by omega
                            have h48 : 48 ≤ ((key[K].toNat : Nat) : Int) := by omega
                            have h57 : ¬ ((key[K].toNat : Nat) : Int) ≤ 57 := by omega
                            clear hd
                            go_wp2_with fail
                            exact ⟨⟨K + 1, by omega, by go_num, by rw [hg.out]; simp⟩, by simp [intOf]; omega⟩
                          · by_cases h48 : 48 ≤ ((key[K].toNat : Nat) : Int)
                            · have h57 : ¬ ((key[K].toNat : Nat) : Int) ≤ 57 := by omega
                              clear hd
                              go_wp2_with fail
                              exact ⟨⟨K + 1, by omega, by go_num, by rw [hg.out]; simp⟩, by simp [intOf]; omega⟩
                            · clear hd
                              go_wp2_with fail
                              exact ⟨⟨K + 1, by omega, by go_num, by rw [hg.out]; simp⟩, by simp [intOf]; omega⟩
                    · have hik := Fin.out K hKl
                      generalize (true && (key.data.toList.take K).all keyB) = gk at *
                      have u := recCheck_calls _ ⟨0, 1, [], key, val⟩ 1 w1 ⟨none, 0, rfl, IsNums.nil _ _ _ _⟩ (by simp) (by dsimp only; omega) (by dsimp only; omega)
                      rw [Hck.out, hik] at u
                      cases gk with
                      | true =>
                        rw [if_pos rfl] at u
                        have U := hide u
                        clear u hik
                        go_wp2_with (go_at_call 21; refine U.out.mono ?_; rintro e w' ⟨rfl, hb⟩)
                        go_ret
                        exact ⟨by simp, hB.trans (hb.mono hB.size)⟩
                      | false =>
                        rw [if_neg (by simp)] at u
                        have U := hide u
                        clear u hik
                        go_wp2_with (go_at_call 21; refine U.out.mono ?_; rintro e w' ⟨rfl, hb⟩)
                        go_ret
                        exact ⟨by simp, hB.trans (hb.mono hB.size)⟩
                · obtain rfl : g0 = false := by rw [← Hg0.out, decide_eq_false (by omega)]
                  go_wp2_with fail
                  go_loop [7, 8] (fun x i => ∃ K : Nat, K ≤ key.size ∧ i = .int .i64 (K : Int) ∧ x = .bool (false && (key.data.toList.take K).all keyB)) (fun _ i => key.size - (intOf i).toNat)
                  case atStart => exact ⟨0, Nat.zero_le _, rfl, by simp⟩
                  case round =>
                    obtain ⟨K, hKn, rfl, rfl⟩ := hrel
                    by_cases hKl : K < key.size
                    · have hlt : (K : Int) < (key.size : Int) := by omega
                      have hg := hide (goodTo_snoc false key K hKl)
                      generalize (false && (key.data.toList.take K).all keyB) = gk at *
                      cases gk with
                      | false =>
                        go_wp2_with fail
                        exact ⟨⟨K + 1, by omega, by go_num, by rw [hg.out]; rfl⟩, by simp [intOf]; omega⟩
                      | true =>
                        cases hd : keyB key[K] with
                        | true =>
                          rw [hd] at hg
                          unfold keyB at hd
                          simp only [decide_eq_true_eq] at hd
                          by_cases h97 : 97 ≤ ((key[K].toNat : Nat) : Int)
                          · have h122 : ((key[K].toNat : Nat) : Int) ≤ 122 := by omega
                            clear hd
                            go_wp2_with fail
                            exact ⟨⟨K + 1, by omega, by go_num, by rw [hg.out]; rfl⟩, by simp [intOf]; omega⟩
                          · have h48 : 48 ≤ ((key[K].toNat : Nat) : Int) := by omega
                            have h57 : ((key[K].toNat : Nat) : Int) ≤ 57 := by omega
                            clear hd
                            go_wp2_with fail
                            exact ⟨⟨K + 1, by omega, by go_num, by rw [hg.out]; rfl⟩, by simp [intOf]; omega⟩
                        | false =>
                          rw [hd] at hg
                          unfold keyB at hd
                          simp only [decide_eq_false_iff_not] at hd
                          by_cases h97 : 97 ≤ ((key[K].toNat : Nat) : Int)
                          · have h122 : ¬ ((key[K].toNat : Nat) : Int) ≤ 122 := by omega
                            have h48 : 48 ≤ ((key[K].toNat : Nat) : Int) := by omega
                            have h57 : ¬ ((key[K].toNat : Nat) : Int) ≤ 57 := by omega
                            clear hd
                            go_wp2_with fail
                            exact ⟨⟨K + 1, by omega, by go_num, by rw [hg.out]; simp⟩, by simp [intOf]; omega⟩
                          · by_cases h48 : 48 ≤ ((key[K].toNat : Nat) : Int)
                            · have h57 : ¬ ((key[K].toNat : Nat) : Int) ≤ 57 := by omega
                              clear hd
                              go_wp2_with fail
                              exact ⟨⟨K + 1, by omega, by go_num, by rw [hg.out]; simp⟩, by simp [intOf]; omega⟩
                            · clear hd
                              go_wp2_with fail
                              exact ⟨⟨K + 1, by omega, by go_num, by rw [hg.out]; simp⟩, by simp [intOf]; omega⟩
                    · have hik := Fin.out K hKl
                      generalize (false && (key.data.toList.take K).all keyB) = gk at *
                      have u := recCheck_calls _ ⟨0, 1, [], key, val⟩ 1 w1 ⟨none, 0, rfl, IsNums.nil _ _ _ _⟩ (by simp) (by dsimp only; omega) (by dsimp only; omega)
                      rw [Hck.out, hik] at u
                      cases gk with
                      | true =>
                        rw [if_pos rfl] at u
                        have U := hide u
                        clear u hik
                        go_wp2_with (go_at_call 21; refine U.out.mono ?_; rintro e w' ⟨rfl, hb⟩)
                        go_ret
                        exact ⟨by simp, hB.trans (hb.mono hB.size)⟩
                      | false =>
                        rw [if_neg (by simp)] at u
                        have U := hide u
                        clear u hik
                        go_wp2_with (go_at_call 21; refine U.out.mono ?_; rintro e w' ⟨rfl, hb⟩)
                        go_ret
                        exact ⟨by simp, hB.trans (hb.mono hB.size)⟩
              · obtain rfl : g0 = false := by rw [← Hg0.out, decide_eq_false (by omega)]
                go_wp2_with fail
                go_loop [7, 8] (fun x i => ∃ K : Nat, K ≤ key.size ∧ i = .int .i64 (K : Int) ∧ x = .bool (false && (key.data.toList.take K).all keyB)) (fun _ i => key.size - (intOf i).toNat)
                case atStart => exact ⟨0, Nat.zero_le _, rfl, by simp⟩
                case round =>
                  obtain ⟨K, hKn, rfl, rfl⟩ := hrel
                  by_cases hKl : K < key.size
                  · have hlt : (K : Int) < (key.size : Int) := by omega
                    have hg := hide (goodTo_snoc false key K hKl)
                    generalize (false && (key.data.toList.take K).all keyB) = gk at *
                    cases gk with
                    | false =>
                      go_wp2_with fail
                      exact ⟨⟨K + 1, by omega, by go_num, by rw [hg.out]; rfl⟩, by simp [intOf]; omega⟩
                    | true =>
                      cases hd : keyB key[K] with
                      | true =>
                        rw [hd] at hg
                        unfold keyB at hd
                        simp only [decide_eq_true_eq] at hd
                        by_cases h97 : 97 ≤ ((key[K].toNat : Nat) : Int)
                        · have h122 : ((key[K].toNat : Nat) : Int) ≤ 122 := by omega
                          clear hd
                          go_wp2_with fail
                          exact ⟨⟨K + 1, by omega, by go_num, by rw [hg.out]; rfl⟩, by simp [intOf]; omega⟩
                        · have h48 : 48 ≤ ((key[K].toNat : Nat) : Int) := by omega
                          have h57 : ((key[K].toNat : Nat) : Int) ≤ 57 := by omega
                          clear hd
                          go_wp2_with fail
                          exact ⟨⟨K + 1, by omega, by go_num, by rw [hg.out]; rfl⟩, by simp [intOf]; omega⟩
                      | false =>
                        rw [hd] at hg
                        unfold keyB at hd
                        simp only [decide_eq_false_iff_not] at hd
                        by_cases h97 : 97 ≤ ((key[K].toNat : Nat) : Int)
                        · have h122 : ¬ ((key[K].toNat : Nat) : Int) ≤ 122 := by omega
                          have h48 : 48 ≤ ((key[K].toNat : Nat) : Int) := by omega
                          have h57 : ¬ ((key[K].toNat : Nat) : Int) ≤ 57 := by omega
                          clear hd
                          go_wp2_with fail
                          exact ⟨⟨K + 1, by omega, by go_num, by rw [hg.out]; simp⟩, by simp [intOf]; omega⟩
                        · by_cases h48 : 48 ≤ ((key[K].toNat : Nat) : Int)
                          · have h57 : ¬ ((key[K].toNat : Nat) : Int) ≤ 57 := by omega
                            clear hd
                            go_wp2_with fail
                            exact ⟨⟨K + 1, by omega, by go_num, by rw [hg.out]; simp⟩, by simp [intOf]; omega⟩
                          · clear hd
                            go_wp2_with fail
                            exact ⟨⟨K + 1, by omega, by go_num, by rw [hg.out]; simp⟩, by simp [intOf]; omega⟩
                  · have hik := Fin.out K hKl
                    generalize (false && (key.data.toList.take K).all keyB) = gk at *
                    have u := recCheck_calls _ ⟨0, 1, [], key, val⟩ 1 w1 ⟨none, 0, rfl, IsNums.nil _ _ _ _⟩ (by simp) (by dsimp only; omega) (by dsimp only; omega)
                    rw [Hck.out, hik] at u
                    cases gk with
                    | true =>
                      rw [if_pos rfl] at u
                      have U := hide u
                      clear u hik
                      go_wp2_with (go_at_call 21; refine U.out.mono ?_; rintro e w' ⟨rfl, hb⟩)
                      go_ret
                      exact ⟨by simp, hB.trans (hb.mono hB.size)⟩
                    | false =>
                      rw [if_neg (by simp)] at u
                      have U := hide u
                      clear u hik
                      go_wp2_with (go_at_call 21; refine U.out.mono ?_; rintro e w' ⟨rfl, hb⟩)
                      go_ret
                      exact ⟨by simp, hB.trans (hb.mono hB.size)⟩
            · obtain rfl : 0 = cv := by rw [← Hcv.out, hall, if_pos rfl, if_neg (by omega)]
              clear hall Hcv
              by_cases k1 : 1 ≤ (key.size : Int)
              · by_cases k8 : (key.size : Int) ≤ 8
                · obtain rfl : g0 = true := by rw [← Hg0.out, decide_eq_true (by omega)]
                  go_wp2_with fail
                  go_loop [7, 8] (fun x i => ∃ K : Nat, K ≤ key.size ∧ i = .int .i64 (K : Int) ∧ x = .bool (true && (key.data.toList.take K).all keyB)) (fun _ i => key.size - (intOf i).toNat)
                  case atStart => exact ⟨0, Nat.zero_le _, rfl, by simp⟩
                  case round =>
                    obtain ⟨K, hKn, rfl, rfl⟩ := hrel
                    by_cases hKl : K < key.size
                    · have hlt : (K : Int) < (key.size : Int) := by omega
                      have hg := hide (goodTo_snoc true key K hKl)
                      generalize (true && (key.data.toList.take K).all keyB) = gk at *
                      cases gk with
                      | false =>
                        go_wp2_with fail
                        exact ⟨⟨K + 1, by omega, by go_num, by rw [hg.out]; rfl⟩, by simp [intOf]; omega⟩
                      | true =>
                        cases hd : keyB key[K] with
                        | true =>
                          rw [hd] at hg
                          unfold keyB at hd
                          simp only [decide_eq_true_eq] at hd
                          by_cases h97 : 97 ≤ ((key[K].toNat : Nat) : Int)
                          · have h122 : ((key[K].toNat : Nat) : Int) ≤ 122 := by omega
                            clear hd
                            go_wp2_with fail
                            exact ⟨⟨K + 1, by omega, by go_num, by rw [hg.out]; rfl⟩, by simp [intOf]; omega⟩
                          · have h48 : 48 ≤ ((key[K].toNat : Nat) : Int) := by omega
                            have h57 : ((key[K].toNat : Nat) : Int) ≤ 57 := by omega
                            clear hd
                            go_wp2_with fail
                            exact ⟨⟨K + 1, by omega, by go_num, by rw [hg.out]; rfl⟩, by simp [intOf]; omega⟩
                        | false =>
                          rw [hd] at hg
                          unfold keyB at hd
                          simp only [decide_eq_false_iff_not] at hd
                          by_cases h97 : 97 ≤ ((key[K].toNat : Nat) : Int)
                          · have h122 : ¬ ((key[K].toNat : Nat) : Int) ≤ 122 := by omega
                            have h48 : 48 ≤ ((key[K].toNat : Nat) : Int) := by omega
                            have h57 : ¬ ((key[K].toNat : Nat) : Int) ≤ 57 := by omega
                            clear hd
                            go_wp2_with fail
                            exact ⟨⟨K + 1, by omega, by go_num, by rw [hg.out]; simp⟩, by simp [intOf]; omega⟩
                          · by_cases h48 : 48 ≤ ((key[K].toNat : Nat) : Int)
                            · have h57 : ¬ ((key[K].toNat : Nat) : Int) ≤ 57 := by omega
                              clear hd
                              go_wp2_with fail
                              exact ⟨⟨K + 1, by omega, by go_num, by rw [hg.out]; simp⟩, by simp [intOf]; omega⟩
                            · clear hd
                              go_wp2_with fail
                              exact ⟨⟨K + 1, by omega, by go_num, by rw [hg.out]; simp⟩, by simp [intOf]; omega⟩
                    · have hik := Fin.out K hKl
                      generalize (true && (key.data.toList.take K).all keyB) = gk at *
                      have u := recCheck_calls _ ⟨0, 1, [], key, val⟩ 1 w1 ⟨none, 0, rfl, IsNums.nil _ _ _ _⟩ (by simp) (by dsimp only; omega) (by dsimp only; omega)
                      rw [Hck.out, hik] at u
                      cases gk with
                      | true =>
                        rw [if_pos rfl] at u
                        have U := hide u
                        clear u hik
                        go_wp2_with (go_at_call 21; refine U.out.mono ?_; rintro e w' ⟨rfl, hb⟩)
                        go_ret
                        exact ⟨by simp, hB.trans (hb.mono hB.size)⟩
                      | false =>
                        rw [if_neg (by simp)] at u
                        have U := hide u
                        clear u hik
                        go_wp2_with (go_at_call 21; refine U.out.mono ?_; rintro e w' ⟨rfl, hb⟩)
                        go_ret
                        exact ⟨by simp, hB.trans (hb.mono hB.size)⟩
                · obtain rfl : g0 = false := by rw [← Hg0.out, decide_eq_false (by omega)]
                  go_wp2_with fail
                  go_loop [7, 8] (fun x i => ∃ K : Nat, K ≤ key.size ∧ i = .int .i64 (K : Int) ∧ x = .bool (false && (key.data.toList.take K).all keyB)) (fun _ i => key.size - (intOf i).toNat)
                  case atStart => exact ⟨0, Nat.zero_le _, rfl, by simp⟩
                  case round =>
                    obtain ⟨K, hKn, rfl, rfl⟩ := hrel
                    by_cases hKl : K < key.size
                    · have hlt : (K : Int) < (key.size : Int) := by omega
                      have hg := hide (goodTo_snoc false key K hKl)
                      generalize (false && (key.data.toList.take K).all keyB) = gk at *
                      cases gk with
                      | false =>
                        go_wp2_with fail
                        exact ⟨⟨K + 1, by omega, by go_num, by rw [hg.out]; rfl⟩, by simp [intOf]; omega⟩
                      | true =>
                        cases hd : keyB key[K] with
                        | true =>
                          rw [hd] at hg
                          unfold keyB at hd
                          simp only [decide_eq_true_eq] at hd
                          by_cases h97 : 97 ≤ ((key[K].toNat : Nat) : Int)
                          · have h122 : ((key[K].toNat : Nat) : Int) ≤ 122 := by omega
                            clear hd
                            go_wp2_with fail
                            exact ⟨⟨K + 1, by omega, by go_num, by rw [hg.out]; rfl⟩, by simp [intOf]; omega⟩
                          · have h48 : 48 ≤ ((key[K].toNat : Nat) : Int) := by omega
                            have h57 : ((key[K].toNat : Nat) : Int) ≤ 57 := by omega
                            clear hd
                            go_wp2_with fail
                            exact ⟨⟨K + 1, by omega, by go_num, by rw [hg.out]; rfl⟩, by simp [intOf]; omega⟩
                        | false =>
                          rw [hd] at hg
                          unfold keyB at hd
                          simp only [decide_eq_false_iff_not] at hd
                          by_cases h97 : 97 ≤ ((key[K].toNat : Nat) : Int)
                          · have h122 : ¬ ((key[K].toNat : Nat) : Int) ≤ 122 := by omega
                            have h48 : 48 ≤ ((key[K].toNat : Nat) : Int) := by omega
                            have h57 : ¬ ((key[K].toNat : Nat) : Int) ≤ 57 := by omega
                            clear hd
                            go_wp2_with fail
                            exact ⟨⟨K + 1, by omega, by go_num, by rw [hg.out]; simp⟩, by simp [intOf]; omega⟩
                          · by_cases h48 : 48 ≤ ((key[K].toNat : Nat) : Int)
                            · have h57 : ¬ ((key[K].toNat : Nat) : Int) ≤ 57 := by omega
                              clear hd
                              go_wp2_with fail
                              exact ⟨⟨K + 1, by omega, by go_num, by rw [hg.out]; simp⟩, by simp [intOf]; omega⟩
                            · clear hd
                              go_wp2_with fail
                              exact ⟨⟨K + 1, by omega, by go_num, by rw [hg.out]; simp⟩, by simp [intOf]; omega⟩
                    · have hik := Fin.out K hKl
                      generalize (false && (key.data.toList.take K).all keyB) = gk at *
                      have u := recCheck_calls _ ⟨0, 1, [], key, val⟩ 1 w1 ⟨none, 0, rfl, IsNums.nil _ _ _ _⟩ (by simp) (by dsimp only; omega) (by dsimp only; omega)
                      rw [Hck.out, hik] at u
                      cases gk with
                      | true =>
                        rw [if_pos rfl] at u
                        have U := hide u
                        clear u hik
                        go_wp2_with (go_at_call 21; refine U.out.mono ?_; rintro e w' ⟨rfl, hb⟩)
                        go_ret
                        exact ⟨by simp, hB.trans (hb.mono hB.size)⟩
                      | false =>
                        rw [if_neg (by simp)] at u
                        have U := hide u
                        clear u hik
                        go_wp2_with (go_at_call 21; refine U.out.mono ?_; rintro e w' ⟨rfl, hb⟩)
                        go_ret
                        exact ⟨by simp, hB.trans (hb.mono hB.size)⟩
              · obtain rfl : g0 = false := by rw [← Hg0.out, decide_eq_false (by omega)]
                go_wp2_with fail
                go_loop [7, 8] (fun x i => ∃ K : Nat, K ≤ key.size ∧ i = .int .i64 (K : Int) ∧ x = .bool (false && (key.data.toList.take K).all keyB)) (fun _ i => key.size - (intOf i).toNat)
                case atStart => exact ⟨0, Nat.zero_le _, rfl, by simp⟩
                case round =>
                  obtain ⟨K, hKn, rfl, rfl⟩ := hrel
                  by_cases hKl : K < key.size
                  · have hlt : (K : Int) < (key.size : Int) := by omega
                    have hg := hide (goodTo_snoc false key K hKl)
                    generalize (false && (key.data.toList.take K).all keyB) = gk at *
                    cases gk with
                    | false =>
                      go_wp2_with fail
                      exact ⟨⟨K + 1, by omega, by go_num, by rw [hg.out]; rfl⟩, by simp [intOf]; omega⟩
                    | true =>
                      cases hd : keyB key[K] with
                      | true =>
                        rw [hd] at hg
                        unfold keyB at hd
                        simp only [decide_eq_true_eq] at hd
                        by_cases h97 : 97 ≤ ((key[K].toNat : Nat) : Int)
                        · have h122 : ((key[K].toNat : Nat) : Int) ≤ 122 := by omega
                          clear hd
                          go_wp2_with fail
                          exact ⟨⟨K + 1, by omega, by go_num, by rw [hg.out]; rfl⟩, by simp [intOf]; omega⟩
                        · have h48 : 48 ≤ ((key[K].toNat : Nat) : Int) := by omega
                          have h57 : ((key[K].toNat : Nat) : Int) ≤ 57 := by omega
                          clear hd
                          go_wp2_with fail
                          exact ⟨⟨K + 1, by omega, by go_num, by rw [hg.out]; rfl⟩, by simp [intOf]; omega⟩
                      | false =>
                        rw [hd] at hg
                        unfold keyB at hd
                        simp only [decide_eq_false_iff_not] at hd
                        by_cases h97 : 97 ≤ ((key[K].toNat : Nat) : Int)
                        · have h122 : ¬ ((key[K].toNat : Nat) : Int) ≤ 122 := by omega
                          have h48 : 48 ≤ ((key[K].toNat : Nat) : Int) := by omega
                          have h57 : ¬ ((key[K].toNat : Nat) : Int) ≤ 57 := by omega
                          clear hd
                          go_wp2_with fail
                          exact ⟨⟨K + 1, by omega, by go_num, by rw [hg.out]; simp⟩, by simp [intOf]; omega⟩
                        · by_cases h48 : 48 ≤ ((key[K].toNat : Nat) : Int)
                          · have h57 : ¬ ((key[K].toNat : Nat) : Int) ≤ 57 := by omega
                            clear hd
                            go_wp2_with fail
                            exact ⟨⟨K + 1, by omega, by go_num, by rw [hg.out]; simp⟩, by simp [intOf]; omega⟩
                          · clear hd
                            go_wp2_with fail
                            exact ⟨⟨K + 1, by omega, by go_num, by rw [hg.out]; simp⟩, by simp [intOf]; omega⟩
                  · have hik := Fin.out K hKl
                    generalize (false && (key.data.toList.take K).all keyB) = gk at *
                    have u := recCheck_calls _ ⟨0, 1, [], key, val⟩ 1 w1 ⟨none, 0, rfl, IsNums.nil _ _ _ _⟩ (by simp) (by dsimp only; omega) (by dsimp only; omega)
                    rw [Hck.out, hik] at u
                    cases gk with
                    | true =>
                      rw [if_pos rfl] at u
                      have U := hide u
                      clear u hik
                      go_wp2_with (go_at_call 21; refine U.out.mono ?_; rintro e w' ⟨rfl, hb⟩)
                      go_ret
                      exact ⟨by simp, hB.trans (hb.mono hB.size)⟩
                    | false =>
                      rw [if_neg (by simp)] at u
                      have U := hide u
                      clear u hik
                      go_wp2_with (go_at_call 21; refine U.out.mono ?_; rintro e w' ⟨rfl, hb⟩)
                      go_ret
                      exact ⟨by simp, hB.trans (hb.mono hB.size)⟩

end Go.Proofs.YtepadjcmmkglfabDoor
