/- The walk of the reference's ParseVec. Own work; no statement. -/
import Derived.Test.YthpahkcncjieiaaDoorRefD
import Derived.Test.YthpahkcncjieiaaDoorRefE
import Derived.Test.YthpahkcncjieiaaDoorW9
set_option linter.unusedSimpArgs false
set_option linter.unusedVariables false
namespace Go.Proofs.YthpahkcncjieiaaDoor
open Go.RowKit Go.Shelf

theorem bracket_iff (l : List UInt8) : bracketB l = true ↔ ∃ x, l = 91 :: (x ++ [93]) :=
  ⟨fun h => ⟨_, bracket_form h⟩, fun ⟨x, h⟩ => by rw [h]; exact (inner_text x).1⟩
theorem parse_no {l : List UInt8} (h : ¬ ∃ x, l = 91 :: (x ++ [93])) : parseL l = ([], 2) := by
  unfold parseL
  rw [if_neg (fun e => h ((bracket_iff l).1 e))]
theorem parse_yes (x : List UInt8) (hx : x ≠ []) : parseL (91 :: (x ++ [93])) = refN (splitL x) := by
  unfold parseL
  rw [if_pos (inner_text x).1, (inner_text x).2, if_neg hx, parseN_ref _ (splitL_ne x)]

theorem text_form (l : List UInt8) (n : Nat) (hl : l.length = n + 2) (h0 : l[0]'(by omega) = 91) (h1 : l[n + 1]'(by omega) = 93) : l = 91 :: ((l.drop 1).take n ++ [93]) := by
  cases l with
  | nil => simp at hl
  | cons a t =>
    simp only [List.length_cons] at hl
    simp only [List.getElem_cons_zero] at h0
    simp only [List.getElem_cons_succ] at h1
    rw [h0, List.drop_succ_cons, List.drop_zero]
    congr 1
    rw [← h1, ← List.take_succ_eq_append_getElem (by omega), List.take_of_length_le (by omega)]
theorem refN_bad {ws : List (List UInt8)} {x : List UInt8} (hx : x ∈ ws) (h : decOk x = false) : refN ws = ([], 2) := by
  unfold refN
  rw [if_neg]
  intro e
  have := List.all_eq_true.1 e x hx
  rw [h] at this
  cases this
theorem refN_big {ws : List (List UInt8)} {x : List UInt8} (hall : ∀ x ∈ ws, decOk x = true) (hl : ws.getLast? ≠ some [48]) (hx : x ∈ ws) (h : ¬ decTo x 0 ≤ 1048576) : refN ws = ([], 4) := by
  unfold refN
  rw [if_pos (List.all_eq_true.2 hall), if_neg hl]
  split
  · rfl
  · rw [if_neg]
    intro e
    exact h (of_decide_eq_true (List.all_eq_true.1 e x hx))
theorem refN_good {ws : List (List UInt8)} (hall : ∀ x ∈ ws, decOk x = true) (hl : ws.getLast? ≠ some [48]) (h8 : ¬ 8 < ws.length) (h : ∀ x ∈ ws, decTo x 0 ≤ 1048576) : refN ws = (ws.map (decTo · 0), 0) := by
  unfold refN
  rw [if_pos (List.all_eq_true.2 hall), if_neg hl, if_neg h8, if_pos (List.all_eq_true.2 (fun x hx => decide_eq_true (h x hx)))]
theorem strs_get (ws : List (List UInt8)) (k : Nat) (h : k < ws.length) : (strs ws)[k]? = some (.string ⟨(ws[k]).toArray⟩) := by
  rw [strs, List.getElem?_map, List.getElem?_eq_getElem h, Option.map_some]
theorem mem_take_snoc {α : Type} (l : List α) (k : Nat) (h : k < l.length) (x : α) (hx : x ∈ l.take (k + 1)) : x ∈ l.take k ∨ x = l[k] := by
  rw [List.take_succ_eq_append_getElem h] at hx
  rcases List.mem_append.1 hx with h | h
  · exact .inl h
  · exact .inr (List.mem_singleton.1 h)

set_option maxRecDepth 20000 in
set_option maxHeartbeats 2000000 in
theorem refParseO_calls (s : ByteArray) (w : World) (hs : s.size ≤ 1048576) :
    Calls Tryd.prog 27 #[.string s] w fun e w' => ∃ v, e = .returned (.tuple #[v, .int .i64 (parseL s.data.toList).2]) ∧ w'.ownsRow w.heap.size 3 1 v (parseL s.data.toList).1.length ((parseL s.data.toList).1.map (Value.int .i64)) ∧ Below w.heap.size w w' := by
  obtain ⟨i0, hi, hz0, hz1, hz2⟩ := info_parts Tryd.info3
  obtain ⟨P, hP⟩ : ∃ P, parseL s.data.toList = P := ⟨_, rfl⟩
  rw [hP]
  have HP := hide hP
  clear hP
  by_cases h2 : (s.size : Int) < 2
  · have e : P = ([], 2) := by
      rw [← HP.out]
      refine parse_no ?_
      rintro ⟨x, hx⟩
      have := congrArg List.length hx
      rw [← Lib.size_eq] at this
      simp at this
      omega
    subst e
    go_enter Tryd.func27, Tryd.ntmps27
    go_wp2_with fail
    go_ret2
    exact ⟨_, rfl, World.ownsRow_nil _ _ _ _, Below.refl _ _⟩
  · have h0 : 0 < s.size := by omega
    have h0I : (0 : Int) < (s.size : Int) := by omega
    have hl1 : s.size - 1 < s.size := by omega
    by_cases h3 : s[0] = 91
    · have h3' : (((s[0].toNat : Nat) : Int) != 91) = false := by rw [h3]; rfl
      by_cases h4 : s[s.size - 1] = 93
      · have h4' : (((s[s.size - 1].toNat : Nat) : Int) != 93) = false := by rw [h4]; rfl
        obtain ⟨n, hn⟩ : ∃ n, s.size = n + 2 := ⟨s.size - 2, by omega⟩
        have hform : s.data.toList = 91 :: ((s.data.toList.drop 1).take n ++ [93]) := by
          refine text_form s.data.toList n (by rw [← Lib.size_eq]; exact hn) h3 ?_
          have e1 : s.data.toList[n + 1]'(by rw [← Lib.size_eq]; omega) = s[s.size - 1] := by
            have : s[s.size - 1] = s.data.toList[s.size - 1]'(by rw [← Lib.size_eq]; exact hl1) := rfl
            rw [this]
            congr 1
            omega
          rw [e1]
          exact h4
        have hext : s.extract 1 (s.size - 1) = ⟨((s.data.toList.drop 1).take n).toArray⟩ := by
          have := extract_list s.data.toList 1 (s.size - 1)
          rw [show s.size - 1 - 1 = n by omega] at this
          exact this
        generalize hI : (s.data.toList.drop 1).take n = I at *
        have hIl : I.length = n := by rw [← hI, List.length_take, List.length_drop, ← Lib.size_eq]; omega
        have hI2 : I.length ≤ 1048574 := by omega
        clear hI hIl hn
        clear n
        replace hext := hide hext
        by_cases hn0 : I = []
        · have hq : (s.toList == [91, 93]) = true := by rw [Lib.toList_data, hform, hn0]; rfl
          have e : P = ([], 0) := by rw [← HP.out, hform, hn0]; rfl
          subst e
          clear hform hn0
          go_enter Tryd.func27, Tryd.ntmps27
          go_wp2_with fail
          go_ret2
          exact ⟨_, rfl, World.ownsRow_nil _ _ _ _, Below.refl _ _⟩
        · have hq : (s.toList == [91, 93]) = false := by
            rw [Lib.toList_data, hform, beq_eq_false_iff_ne]
            intro e
            apply hn0
            have := congrArg List.length e
            simp only [List.length_cons, List.length_append, List.length_nil] at this
            exact List.eq_nil_of_length_eq_zero (by omega)
          have e : P = refN (splitL I) := by rw [← HP.out, hform]; exact parse_yes I hn0
          have hsm := hide (split_mem_len I)
          have hcnt := splitL_count I
          have hwne := splitL_ne I
          have hspl := hide (refSplit_calls ⟨I.toArray⟩ w (by simp [ByteArray.size]; omega))
          rw [show (⟨I.toArray⟩ : ByteArray).data.toList = I from rfl] at hspl
          generalize splitL I = ws at *
          obtain ⟨m, hm⟩ : ∃ m, ws.length = m + 1 := ⟨ws.length - 1, by have := List.length_pos_iff.2 hwne; omega⟩
          replace e := hide e
          clear hform HP hn0 hwne
          go_enter Tryd.func27, Tryd.ntmps27
          go_wp2_with fail
          rw [hext.out]
          refine hspl.out.mono ?_
          rintro e w1 ⟨vl, rfl, hrow, hB⟩
          rw [hm] at hrow
          obtain ⟨g, cl, rfl⟩ := ownsRow_succ hrow
          have hgl := (hrow.lt g rfl).2
          have hcell := hide (show ∀ k (h : k < ws.length), w1.cell? ⟨g, k, none⟩ = some (.string ⟨(ws[k]).toArray⟩) from fun k h => by rw [hrow.cellAt k (by omega), strs_get ws k h])
          have hwl := hide (show ∀ k (h : k < ws.length), (ws[k]).length ≤ 1048576 from fun k h => by have := hsm.out _ (List.getElem_mem h); omega)
          clear hrow hspl hsm
          go_wp2_with fail
          go_loop [5] (fun i => ∃ k : Nat, i = .int .i64 (k : Int) ∧ k ≤ m + 1 ∧ ∀ x ∈ ws.take k, decOk x = true) (fun i => m + 1 - (intOf i).toNat)
          case atStart => exact ⟨0, rfl, Nat.zero_le _, by simp⟩
          case round =>
            obtain ⟨k, rfl, hk, hall⟩ := hrel
            replace hall := hide hall
            by_cases hkl : k < m + 1
            · have hlt : (k : Int) < (m : Int) + 1 := by omega
              have hc := hcell.out k (by omega)
              have hxl := hwl.out k (by omega)
              have hxm := hide (List.getElem_mem (show k < ws.length by omega))
              have hts := hide (mem_take_snoc ws k (by omega))
              generalize ws[k]'(by omega) = x at *
              have hdc := hide (refDigits_calls ⟨x.toArray⟩ w1 (by simp [ByteArray.size]; omega))
              rw [show (⟨x.toArray⟩ : ByteArray).data.toList = x from rfl] at hdc
              cases hd : decOk x with
              | false =>
                rw [hd] at hdc
                have e2 : P = ([], 2) := by rw [e.out]; exact refN_bad hxm.out hd
                subst e2
                clear hd
                go_wp2_with (go_at_call 49; refine hdc.out.mono ?_; rintro e w' ⟨rfl, rfl⟩)
                go_ret2
                exact ⟨_, rfl, World.ownsRow_nil _ _ _ _, hB⟩
              | true =>
                rw [hd] at hdc
                replace hd := hide hd
                go_wp2_with (go_at_call 49; refine hdc.out.mono ?_; rintro e w' ⟨rfl, rfl⟩)
                refine ⟨⟨k + 1, by go_num, by omega, fun y hy => ?_⟩, by simp [intOf]; omega⟩
                rcases hts.out y hy with h | rfl
                · exact hall.out y h
                · exact hd.out
            · have hA : ∀ x ∈ ws, decOk x = true := by
                have := hall.out
                rwa [List.take_of_length_le (by omega)] at this
              obtain rfl : k = m + 1 := by omega
              replace hA := hide hA
              clear hall
              have hcm := hcell.out m (by omega)
              have hgl2 : ws.getLast? = some (ws[m]'(by omega)) := by rw [List.getLast?_eq_getElem?, show ws.length - 1 = m by omega, List.getElem?_eq_getElem (by omega)]
              generalize ws[m]'(by omega) = z at *
              have hmI : (m : Int) < (m : Int) + 1 := by omega
              by_cases hz : z = [48]
              · have hzq : (z == [48]) = true := by rw [hz]; rfl
                have e2 : P = ([], 2) := by
                  rw [e.out]
                  unfold refN
                  rw [if_pos (List.all_eq_true.2 hA.out), if_pos (by rw [hgl2, hz])]
                subst e2
                clear hz hgl2
                go_wp2_with fail
                go_ret2
                exact ⟨_, rfl, World.ownsRow_nil _ _ _ _, hB⟩
              · have hzq : (z == [48]) = false := by rw [beq_eq_false_iff_ne]; exact hz
                have hL : ws.getLast? ≠ some [48] := by rw [hgl2]; intro h; exact hz (Option.some.inj h)
                replace hL := hide hL
                clear hz hgl2
                by_cases h8 : 8 < (m : Int) + 1
                · have e2 : P = ([], 4) := by
                    rw [e.out]
                    unfold refN
                    rw [if_pos (List.all_eq_true.2 hA.out), if_neg hL.out, if_pos (by omega)]
                  subst e2
                  go_wp2_with fail
                  go_ret2
                  exact ⟨_, rfl, World.ownsRow_nil _ _ _ _, hB⟩
                · go_wp2_with fail
                  go_loopw [6, 7] (fun v i wr => ∃ k : Nat, i = .int .i64 (k : Int) ∧ k ≤ m + 1 ∧ (∀ x ∈ ws.take k, decTo x 0 ≤ 1048576) ∧ wr.ownsRow w1.heap.size 3 1 v k (((ws.take k).map (decTo · 0)).map (Value.int .i64)) ∧ Below w1.heap.size w1 wr) (fun _ i _ => m + 1 - (intOf i).toNat)
                  case atStart => exact ⟨0, rfl, Nat.zero_le _, by simp, World.ownsRow_nil _ _ _ _, Below.refl _ _⟩
                  case round =>
                    obtain ⟨k, rfl, hk, hsmall, hown, hB2⟩ := hrel
                    replace hsmall := hide hsmall
                    have hbs := hB2.size
                    by_cases hkl : k < m + 1
                    · have hlt : (k : Int) < (m : Int) + 1 := by omega
                      have hc : wr.cell? ⟨g, k, none⟩ = _ := (hB2.cell (p := ⟨g, k, none⟩) hgl).trans (hcell.out k (by omega))
                      have hxl := hwl.out k (by omega)
                      have hxm := List.getElem_mem (show k < ws.length by omega)
                      have hts := hide (mem_take_snoc ws k (by omega))
                      have htk := hide (List.take_succ_eq_append_getElem (l := ws) (i := k) (by omega))
                      generalize ws[k]'(by omega) = x at *
                      have hok := hA.out x hxm
                      have hdv := decTo_ok hok
                      have hv0 := valTo_ge x 0 (decOk_parts hok).2.2 (Int.le_refl _)
                      have hnc := hide (refNumber_calls ⟨x.toArray⟩ wr (by simp [ByteArray.size]; omega) hok)
                      rw [show (⟨x.toArray⟩ : ByteArray).data.toList = x from rfl] at hnc
                      by_cases hle : decTo x 0 ≤ 1048576
                      · have e1 : numV x = decTo x 0 := by unfold numV; rw [if_pos (by omega)]; omega
                        have e2 : numB x = true := by unfold numB; exact decide_eq_true (by omega)
                        have hd0 : 0 ≤ decTo x 0 := by omega
                        rw [e1, e2] at hnc
                        have hgd : ¬ 1048576 < decTo x 0 := by omega
                        clear hdv hv0 e1 e2
                        obtain ⟨y, hy⟩ : ∃ y, decTo x 0 = y := ⟨_, rfl⟩
                        rw [hy] at hnc hle hd0 hgd
                        replace hy := hide hy
                        go_wp2_with (first | (go_at_call 26; refine hnc.out.mono ?_; rintro e w' ⟨rfl, rfl⟩) | (at_builtin; refine wpList_append_own _ rfl _ _ 27 rfl w1.heap.size 3 i0 (.int .i64 0) 1 8 Tryd.underlying27 hi hz0 hz1 hz2 rfl (by decide) _ _ _ rfl (hown.alloc _) ⟨_, 0, none⟩ 1 1 [.int .i64 y] rfl rfl (cell_one_new _ _ _) (by intro u hu; simp at hu; subst hu; rfl) (by unfold maxLen; omega) (by omega) (by simp; omega) ?_; intro v2 w2 hown2 hgrow2 _))
                        refine ⟨⟨k + 1, by go_num, by omega, fun q hq => ?_, ?_, (hB2.alloc hB2.size _).grown hgrow2 (by simp; omega) (fun j hj => (hown.lt j hj).1)⟩, by simp [intOf]; omega⟩
                        · rcases hts.out q hq with h | rfl
                          · exact hsmall.out q h
                          · rw [hy.out]; exact hle
                        · rw [htk.out, List.map_append, List.map_append]
                          simp only [List.map_cons, List.map_nil, hy.out]
                          exact hown2
                      · have e2 : P = ([], 4) := by rw [e.out]; exact refN_big hA.out hL.out hxm hle
                        subst e2
                        by_cases hle2 : valTo x 0 ≤ 2147483647
                        · have e1 : numV x = valTo x 0 := by unfold numV; rw [if_pos hle2]
                          have e2 : numB x = true := by unfold numB; exact decide_eq_true hle2
                          rw [e1, e2] at hnc
                          have hgd : 1048576 < valTo x 0 := by omega
                          clear hdv e1 e2 hle
                          generalize valTo x 0 = y at *
                          go_wp2_with (go_at_call 26; refine hnc.out.mono ?_; rintro e w' ⟨rfl, rfl⟩)
                          go_ret2
                          exact ⟨_, rfl, World.ownsRow_nil _ _ _ _, hB.trans (hB2.mono hB.size)⟩
                        · have e1 : numV x = 0 := by unfold numV; rw [if_neg hle2]
                          have e2 : numB x = false := by unfold numB; exact decide_eq_false hle2
                          rw [e1, e2] at hnc
                          clear hdv e1 e2 hle hle2 hv0
                          go_wp2_with (go_at_call 26; refine hnc.out.mono ?_; rintro e w' ⟨rfl, rfl⟩)
                          go_ret2
                          exact ⟨_, rfl, World.ownsRow_nil _ _ _ _, hB.trans (hB2.mono hB.size)⟩
                    · have hS2 : ∀ x ∈ ws, decTo x 0 ≤ 1048576 := by
                        have := hsmall.out
                        rwa [List.take_of_length_le (by omega)] at this
                      have e2 : P = (ws.map (decTo · 0), 0) := by rw [e.out]; exact refN_good hA.out hL.out (by omega) hS2
                      subst e2
                      rw [List.take_of_length_le (by omega)] at hown
                      clear hS2 hsmall
                      go_wp2_with fail
                      go_ret2
                      exact ⟨_, rfl, by rw [show k = m + 1 by omega, List.map_map] at hown; exact ownsRow_low hown hB.size, hB.trans (hB2.mono hB.size)⟩
      · have h4' : (((s[s.size - 1].toNat : Nat) : Int) != 93) = true := by
          rw [bne_iff_ne]
          intro e'
          exact h4 (UInt8.toNat_inj.1 (by simp; omega))
        have e : P = ([], 2) := by
          rw [← HP.out]
          refine parse_no ?_
          rintro ⟨x, hx⟩
          apply h4
          have hl : s.size = x.length + 2 := by rw [Lib.size_eq, hx]; simp
          have : s[s.size - 1] = s.data.toList[s.size - 1]'(by rw [← Lib.size_eq]; exact hl1) := rfl
          rw [this]
          simp only [hx, hl]
          simp
        subst e
        go_enter Tryd.func27, Tryd.ntmps27
        go_wp2_with fail
        go_ret2
        exact ⟨_, rfl, World.ownsRow_nil _ _ _ _, Below.refl _ _⟩
    · have h3' : (((s[0].toNat : Nat) : Int) != 91) = true := by
        rw [bne_iff_ne]
        intro e'
        exact h3 (UInt8.toNat_inj.1 (by simp; omega))
      have e : P = ([], 2) := by
        rw [← HP.out]
        refine parse_no ?_
        rintro ⟨x, hx⟩
        apply h3
        have : s[0] = s.data.toList[0]'(by rw [← Lib.size_eq]; exact h0) := rfl
        rw [this]
        simp only [hx]
        rfl
      subst e
      go_enter Tryd.func27, Tryd.ntmps27
      go_wp2_with fail
      go_ret2
      exact ⟨_, rfl, World.ownsRow_nil _ _ _ _, Below.refl _ _⟩

theorem refParse_calls (s : ByteArray) (w : World) (hs : s.size ≤ 1048576) :
    Calls Tryd.prog 27 #[.string s] w fun e w' => ∃ v, e = .returned (.tuple #[v, .int .i64 (parseL s.data.toList).2]) ∧ IsNums .i64 w' v (parseL s.data.toList).1 ∧ Below w.heap.size w w' := by
  refine (refParseO_calls s w hs).mono ?_
  rintro e w' ⟨v, rfl, ho, hB⟩
  exact ⟨v, rfl, IsNums.of_row ho, hB⟩

end Go.Proofs.YthpahkcncjieiaaDoor
