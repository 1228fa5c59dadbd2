/- Own work: the parts RefE, RefF, R8, R9, Range2, Tail, R10, R11, R12 of the proof, laid together. -/
import Derived.Test.YtncmocmmkbmmjaaGreatDoorPartSegLines5
import Derived.Test.YtncmocmmkbmmjaaGreatDoorPartSegLines4
import Derived.Test.YtncmocmmkbmmjaaGreatDoorPartSegLines2
import Derived.Deep.RegionLaw
import Derived.Outline
import Derived.Test.YtncmocmmkbmmjaaGreatDoorPartSegLines1
import Derived.Sort.QuietThIn
import Derived.StillTail
import Derived.Lib.QuietBelowIn
import Derived.Stop.RegionWithIn
import Derived.Maps.OwnIn
import Derived.Test.YtncmocmmkbmmjaaGreatDoorPartSegLines3
/- The walk of the reference's Split. Own work; no statement. -/
set_option linter.unusedSimpArgs false
set_option linter.unusedVariables false
namespace Go.Proofs.YtncmocmmkbmmjaaGreatDoor
open Go.RowKit Go.Shelf

theorem splitL_snoc_blank : ∀ (l : List UInt8), splitL (l ++ [32]) = splitL l ++ [[]] := fun l => by rw [splitL_append]; rfl
theorem splitL_snoc (c : UInt8) (hc : c ≠ 32) : ∀ (l : List UInt8), ∃ ys x, splitL l = ys ++ [x] ∧ splitL (l ++ [c]) = ys ++ [x ++ [c]]
  | [] => ⟨[], [], rfl, by simp [splitL, hc]⟩
  | d :: l => by
    obtain ⟨ys, x, h1, h2⟩ := splitL_snoc c hc l
    simp only [List.cons_append, splitL]
    by_cases hd : d = 32
    · rw [if_pos hd, if_pos hd, h1, h2]
      exact ⟨[] :: ys, x, rfl, rfl⟩
    · rw [if_neg hd, if_neg hd, h1, h2]
      cases ys with
      | nil => exact ⟨[], d :: x, rfl, rfl⟩
      | cons y ys => exact ⟨(d :: y) :: ys, x, rfl, rfl⟩

def strs (ws : List (List UInt8)) : List Value := ws.map fun x => .string ⟨x.toArray⟩

theorem Tryz.info9 : (Tryz.prog.info? 9).map (fun i => (i.zero, i.size, i.bytes)) = some (some (.string ⟨#[]⟩), 1, 16) := by kernel_rfl

theorem strs_set (ys : List (List UInt8)) (x y : List UInt8) : (strs (ys ++ [x])).set ys.length (.string ⟨y.toArray⟩) = strs (ys ++ [y]) := by
  rw [strs, strs, List.map_append, List.map_append, List.set_append_right _ _ (by simp)]
  simp
theorem splitL_count : ∀ (l : List UInt8), (splitL l).length ≤ l.length + 1
  | [] => by simp [splitL]
  | c :: l => by
    have ih := splitL_count l
    simp only [splitL]
    split
    · simp; omega
    · cases hl : splitL l with
      | nil => simp
      | cons y ys => rw [hl] at ih; simp at ih ⊢; omega
theorem split_mem_len : ∀ (l : List UInt8) (x : List UInt8), x ∈ splitL l → x.length ≤ l.length
  | [], x, h => by simp [splitL] at h; simp [h]
  | c :: l, x, h => by
    simp only [splitL] at h
    split at h
    · rcases List.mem_cons.1 h with rfl | h
      · simp
      · have := split_mem_len l x h; simp; omega
    · cases hl : splitL l with
      | nil => exact absurd hl (splitL_ne l)
      | cons y ys =>
        rw [hl] at h
        rcases List.mem_cons.1 h with rfl | h
        · have := split_mem_len l y (by rw [hl]; simp); simp; omega
        · have := split_mem_len l x (by rw [hl]; simp [h]); simp; omega
theorem byte_ext (s : ByteArray) (x : List UInt8) (k : Nat) (h : k < s.size) : (⟨x.toArray⟩ : ByteArray) ++ s.extract k (k + 1) = ⟨(x ++ [s[k]]).toArray⟩ := by
  have e : s.extract k (k + 1) = ⟨[s[k]].toArray⟩ := by
    have e0 : s.extract k (k + 1) = ⟨((s.data.toList.drop k).take (k + 1 - k)).toArray⟩ := extract_list s.data.toList k (k + 1)
    have hk : k < s.data.toList.length := by rw [← Lib.size_eq]; exact h
    rw [e0, List.drop_eq_getElem_cons hk, show k + 1 - k = 0 + 1 by omega, List.take_succ_cons, List.take_zero]
    rfl
  rw [e, app_bytes]

set_option maxRecDepth 20000 in
set_option maxHeartbeats 2000000 in
theorem refSplit_calls (s : ByteArray) (w : World) (hs : s.size ≤ 1048576) :
    Calls Tryz.prog 103 #[.string s, .int .u8 32] w fun e w' => ∃ v, e = .returned v ∧ w'.ownsRow w.heap.size 9 1 v (splitL s.data.toList).length (strs (splitL s.data.toList)) ∧ Below w.heap.size w w' := by
  obtain ⟨i0, hi, hz0, hz1, hz2⟩ := info_parts Tryz.info9
  have hrow0 : (w.alloc (.cells #[.string ⟨#[]⟩] 9)).ownsRow w.heap.size 9 1 (.slice (some ⟨w.heap.size, 0, none⟩) 1 1) 1 (strs (splitL [])) := World.ownsRow_lit w #[.string ⟨#[]⟩] 1 (Nat.le_refl _) (by unfold maxLen; omega) rfl
  go_enter Tryz.func103, Tryz.ntmps103
  go_wp2_with fail
  go_loopw [5, 6] (fun v i wr => ∃ k : Nat, k ≤ s.size ∧ i = .int .i64 (k : Int) ∧ wr.ownsRow w.heap.size 9 1 v (splitL (s.data.toList.take k)).length (strs (splitL (s.data.toList.take k))) ∧ Below w.heap.size w wr) (fun _ i _ => s.size - (intOf i).toNat)
  case atStart => exact ⟨0, Nat.zero_le _, rfl, hrow0, alloc_below _ _⟩
  case round =>
    obtain ⟨k, hk, rfl, hown, hB⟩ := hrel
    clear hrow0
    have hbs := hB.size
    have hlen : (splitL (s.data.toList.take k)).length ≤ k + 1 := by
      have := splitL_count (s.data.toList.take k)
      rw [List.length_take] at this
      omega
    by_cases hkl : k < s.size
    · have hlt : (k : Int) < (s.size : Int) := by omega
      have hts := take_snoc_byte s k hkl
      by_cases hc : s[k] = 32
      · have hc1 : (((s[k].toNat : Nat) : Int) == 32) = true := by rw [hc]; rfl
        have hsp := splitL_snoc_blank (s.data.toList.take k)
        rw [← hc, ← hts] at hsp
        replace hsp := hide hsp
        clear hts hc
        generalize splitL (s.data.toList.take k) = ws at *
        obtain ⟨pv, cv, rfl⟩ := ownsRow_slice hown
        go_wp2_with (at_builtin; refine wpList_append_own _ rfl _ _ 22 rfl w.heap.size 9 i0 (.string ⟨#[]⟩) 1 16 Tryz.underlying22 hi hz0 hz1 hz2 rfl (by decide) _ _ _ rfl (hown.alloc _) ⟨wr.heap.size, 0, none⟩ 1 1 [.string ⟨#[]⟩] rfl rfl (cell_one_new _ _ _) (by intro u hu; simp at hu; subst hu; rfl) (by unfold maxLen; omega) (by omega) (by simp; omega) ?_; intro v2 w2 hown2 hgrow2 _)
        refine ⟨⟨k + 1, by omega, by go_num, ?_, (hB.alloc hB.size _).grown hgrow2 (by simp; omega) (fun j hj => (hown.lt j hj).1)⟩, by simp [intOf]; omega⟩
        rw [hsp.out, List.length_append, strs, List.map_append]
        exact hown2
      · have hc1 : (((s[k].toNat : Nat) : Int) == 32) = false := by
          rw [beq_eq_false_iff_ne]
          intro e
          exact hc (UInt8.toNat_inj.1 (by simp; omega))
        obtain ⟨ys, x, h1, h2⟩ := splitL_snoc s[k] hc (s.data.toList.take k)
        have hxl : x.length ≤ k := by
          have := split_mem_len (s.data.toList.take k) x (by rw [h1]; simp)
          rw [List.length_take] at this
          omega
        rw [← hts] at h2
        have hbe := hide (byte_ext s x k hkl)
        rw [h1] at hown hlen
        rw [List.length_append, List.length_singleton] at hown hlen
        replace h2 := hide h2
        clear hts h1 hc
        obtain ⟨gg, cv, rfl⟩ := ownsRow_succ hown
        have hcl := hown.cellAt ys.length (by omega)
        rw [strs, List.getElem?_map, List.getElem?_append_right (Nat.le_refl _), Nat.sub_self] at hcl
        simp only [List.getElem?_cons_zero, Option.map_some] at hcl
        have hf := hown.frozenAt ys.length
        have hglt := (hown.lt gg rfl).1
        obtain ⟨hown2, -⟩ := hown.stored ys.length (.string ⟨(x ++ [s[k]]).toArray⟩)
        replace hown2 := hide hown2
        have hi1 : (ys.length : Int) < (ys.length : Int) + 1 := by omega
        have hk2 : (k : Int) + 1 ≤ (s.size : Int) := by omega
        clear hown
        go_wp2_with fail
        go_region
        go_wp2_with fail
        refine ⟨⟨k + 1, by omega, by go_num, ?_, (hB.setCell (p := ⟨gg, ys.length, none⟩) hglt _).drew⟩, by simp [intOf]; omega⟩
        rw [hbe.out, h2.out, List.length_append, List.length_singleton]
        have := hown2.out
        rw [strs_set] at this
        exact this
    · have e : s.data.toList.take k = s.data.toList := List.take_of_length_le (by rw [← Lib.size_eq]; omega)
      rw [e] at hown
      clear e hlen
      go_wp2_with fail
      go_ret
      exact ⟨_, rfl, hown, hB⟩

end Go.Proofs.YtncmocmmkbmmjaaGreatDoor

/- The walk of the reference's ParseVec. Own work; no statement. -/
set_option linter.unusedSimpArgs false
set_option linter.unusedVariables false
namespace Go.Proofs.YtncmocmmkbmmjaaGreatDoor
open Go.RowKit Go.Shelf

theorem bracket_iff (l : List UInt8) : bracketB l = true ↔ ∃ x, l = 91 :: (x ++ [93]) :=
  ⟨fun h => ⟨_, bracket_form h⟩, fun ⟨x, h⟩ => by rw [h]; exact (inner_text x).1⟩
theorem parse_no {l : List UInt8} (h : ¬ ∃ x, l = 91 :: (x ++ [93])) : parseL l = ([], 2) := by
  unfold parseL
  rw [if_neg (fun e => h ((bracket_iff l).1 e))]
theorem parse_yes (x : List UInt8) (hx : x ≠ []) : parseL (91 :: (x ++ [93])) = refN (splitL x) := by
  unfold parseL
  rw [if_pos (inner_text x).1, (inner_text x).2, if_neg hx, parseN_ref _ (splitL_ne x)]

theorem text_form (l : List UInt8) (n : Nat) (hl : l.length = n + 2) (h0 : l[0]'(by omega) = 91) (h1 : l[n + 1]'(by omega) = 93) : l = 91 :: ((l.drop 1).take n ++ [93]) := by
  cases l with
  | nil => simp at hl
  | cons a t =>
    simp only [List.length_cons] at hl
    simp only [List.getElem_cons_zero] at h0
    simp only [List.getElem_cons_succ] at h1
    rw [h0, List.drop_succ_cons, List.drop_zero]
    congr 1
    rw [← h1, ← List.take_succ_eq_append_getElem (by omega), List.take_of_length_le (by omega)]
theorem refN_bad {ws : List (List UInt8)} {x : List UInt8} (hx : x ∈ ws) (h : decOk x = false) : refN ws = ([], 2) := by
  unfold refN
  rw [if_neg]
  intro e
  have := List.all_eq_true.1 e x hx
  rw [h] at this
  cases this
theorem refN_big {ws : List (List UInt8)} {x : List UInt8} (hall : ∀ x ∈ ws, decOk x = true) (hl : ws.getLast? ≠ some [48]) (hx : x ∈ ws) (h : ¬ decTo x 0 ≤ 1048576) : refN ws = ([], 4) := by
  unfold refN
  rw [if_pos (List.all_eq_true.2 hall), if_neg hl]
  split
  · rfl
  · rw [if_neg]
    intro e
    exact h (of_decide_eq_true (List.all_eq_true.1 e x hx))
theorem refN_good {ws : List (List UInt8)} (hall : ∀ x ∈ ws, decOk x = true) (hl : ws.getLast? ≠ some [48]) (h8 : ¬ 8 < ws.length) (h : ∀ x ∈ ws, decTo x 0 ≤ 1048576) : refN ws = (ws.map (decTo · 0), 0) := by
  unfold refN
  rw [if_pos (List.all_eq_true.2 hall), if_neg hl, if_neg h8, if_pos (List.all_eq_true.2 (fun x hx => decide_eq_true (h x hx)))]
theorem strs_get (ws : List (List UInt8)) (k : Nat) (h : k < ws.length) : (strs ws)[k]? = some (.string ⟨(ws[k]).toArray⟩) := by
  rw [strs, List.getElem?_map, List.getElem?_eq_getElem h, Option.map_some]
theorem mem_take_snoc {α : Type} (l : List α) (k : Nat) (h : k < l.length) (x : α) (hx : x ∈ l.take (k + 1)) : x ∈ l.take k ∨ x = l[k] := by
  rw [List.take_succ_eq_append_getElem h] at hx
  rcases List.mem_append.1 hx with h | h
  · exact .inl h
  · exact .inr (List.mem_singleton.1 h)

set_option maxRecDepth 20000 in
set_option maxHeartbeats 2000000 in
theorem refParseO_calls (s : ByteArray) (w : World) (hs : s.size ≤ 1048576) :
    Calls Tryz.prog 92 #[.string s] w fun e w' => ∃ v, e = .returned (.tuple #[v, .int .i64 (parseL s.data.toList).2]) ∧ w'.ownsRow w.heap.size 3 1 v (parseL s.data.toList).1.length ((parseL s.data.toList).1.map (Value.int .i64)) ∧ Below w.heap.size w w' := by
  obtain ⟨i0, hi, hz0, hz1, hz2⟩ := info_parts Tryz.info3
  obtain ⟨P, hP⟩ : ∃ P, parseL s.data.toList = P := ⟨_, rfl⟩
  rw [hP]
  have HP := hide hP
  clear hP
  by_cases h2 : (s.size : Int) < 2
  · have e : P = ([], 2) := by
      rw [← HP.out]
      refine parse_no ?_
      rintro ⟨x, hx⟩
      have := congrArg List.length hx
      rw [← Lib.size_eq] at this
      simp at this
      omega
    subst e
    go_enter Tryz.func92, Tryz.ntmps92
    go_wp2_with fail
    go_ret2
    exact ⟨_, rfl, World.ownsRow_nil _ _ _ _, Below.refl _ _⟩
  · have h0 : 0 < s.size := by omega
    have h0I : (0 : Int) < (s.size : Int) := by omega
    have hl1 : s.size - 1 < s.size := by omega
    by_cases h3 : s[0] = 91
    · have h3' : (((s[0].toNat : Nat) : Int) != 91) = false := by rw [h3]; rfl
      by_cases h4 : s[s.size - 1] = 93
      · have h4' : (((s[s.size - 1].toNat : Nat) : Int) != 93) = false := by rw [h4]; rfl
        obtain ⟨n, hn⟩ : ∃ n, s.size = n + 2 := ⟨s.size - 2, by omega⟩
        have hform : s.data.toList = 91 :: ((s.data.toList.drop 1).take n ++ [93]) := by
          refine text_form s.data.toList n (by rw [← Lib.size_eq]; exact hn) h3 ?_
          have e1 : s.data.toList[n + 1]'(by rw [← Lib.size_eq]; omega) = s[s.size - 1] := by
            have : s[s.size - 1] = s.data.toList[s.size - 1]'(by rw [← Lib.size_eq]; exact hl1) := rfl
            rw [this]
            congr 1
            omega
          rw [e1]
          exact h4
        have hext : s.extract 1 (s.size - 1) = ⟨((s.data.toList.drop 1).take n).toArray⟩ := by
          have := extract_list s.data.toList 1 (s.size - 1)
          rw [show s.size - 1 - 1 = n by omega] at this
          exact this
        generalize hI : (s.data.toList.drop 1).take n = I at *
        have hIl : I.length = n := by rw [← hI, List.length_take, List.length_drop, ← Lib.size_eq]; omega
        have hI2 : I.length ≤ 1048574 := by omega
        clear hI hIl hn
        clear n
        replace hext := hide hext
        by_cases hn0 : I = []
        · have hq : (s.toList == [91, 93]) = true := by rw [Lib.toList_data, hform, hn0]; rfl
          have e : P = ([], 0) := by rw [← HP.out, hform, hn0]; rfl
          subst e
          clear hform hn0
          go_enter Tryz.func92, Tryz.ntmps92
          go_wp2_with fail
          go_ret2
          exact ⟨_, rfl, World.ownsRow_nil _ _ _ _, Below.refl _ _⟩
        · have hq : (s.toList == [91, 93]) = false := by
            rw [Lib.toList_data, hform, beq_eq_false_iff_ne]
            intro e
            apply hn0
            have := congrArg List.length e
            simp only [List.length_cons, List.length_append, List.length_nil] at this
            exact List.eq_nil_of_length_eq_zero (by omega)
          have e : P = refN (splitL I) := by rw [← HP.out, hform]; exact parse_yes I hn0
          have hsm := hide (split_mem_len I)
          have hcnt := splitL_count I
          have hwne := splitL_ne I
          have hspl := hide (refSplit_calls ⟨I.toArray⟩ w (by simp [ByteArray.size]; omega))
          rw [show (⟨I.toArray⟩ : ByteArray).data.toList = I from rfl] at hspl
          generalize splitL I = ws at *
          obtain ⟨m, hm⟩ : ∃ m, ws.length = m + 1 := ⟨ws.length - 1, by have := List.length_pos_iff.2 hwne; omega⟩
          replace e := hide e
          clear hform HP hn0 hwne
          go_enter Tryz.func92, Tryz.ntmps92
          go_wp2_with fail
          rw [hext.out]
          refine hspl.out.mono ?_
          rintro e w1 ⟨vl, rfl, hrow, hB⟩
          rw [hm] at hrow
          obtain ⟨g, cl, rfl⟩ := ownsRow_succ hrow
          have hgl := (hrow.lt g rfl).2
          have hcell := hide (show ∀ k (h : k < ws.length), w1.cell? ⟨g, k, none⟩ = some (.string ⟨(ws[k]).toArray⟩) from fun k h => by rw [hrow.cellAt k (by omega), strs_get ws k h])
          have hwl := hide (show ∀ k (h : k < ws.length), (ws[k]).length ≤ 1048576 from fun k h => by have := hsm.out _ (List.getElem_mem h); omega)
          clear hrow hspl hsm
          go_wp2_with fail
          go_loop [5] (fun i => ∃ k : Nat, i = .int .i64 (k : Int) ∧ k ≤ m + 1 ∧ ∀ x ∈ ws.take k, decOk x = true) (fun i => m + 1 - (intOf i).toNat)
          case atStart => exact ⟨0, rfl, Nat.zero_le _, by simp⟩
          case round =>
            obtain ⟨k, rfl, hk, hall⟩ := hrel
            replace hall := hide hall
            by_cases hkl : k < m + 1
            · have hlt : (k : Int) < (m : Int) + 1 := by omega
              have hc := hcell.out k (by omega)
              have hxl := hwl.out k (by omega)
              have hxm := hide (List.getElem_mem (show k < ws.length by omega))
              have hts := hide (mem_take_snoc ws k (by omega))
              generalize ws[k]'(by omega) = x at *
              have hdc := hide (refDigits_calls ⟨x.toArray⟩ w1 (by simp [ByteArray.size]; omega))
              rw [show (⟨x.toArray⟩ : ByteArray).data.toList = x from rfl] at hdc
              cases hd : decOk x with
              | false =>
                rw [hd] at hdc
                have e2 : P = ([], 2) := by rw [e.out]; exact refN_bad hxm.out hd
                subst e2
                clear hd
                go_wp2_with (go_at_call 104; refine hdc.out.mono ?_; rintro e w' ⟨rfl, rfl⟩)
                go_ret2
                exact ⟨_, rfl, World.ownsRow_nil _ _ _ _, hB⟩
              | true =>
                rw [hd] at hdc
                replace hd := hide hd
                go_wp2_with (go_at_call 104; refine hdc.out.mono ?_; rintro e w' ⟨rfl, rfl⟩)
                refine ⟨⟨k + 1, by go_num, by omega, fun y hy => ?_⟩, by simp [intOf]; omega⟩
                rcases hts.out y hy with h | rfl
                · exact hall.out y h
                · exact hd.out
            · have hA : ∀ x ∈ ws, decOk x = true := by
                have := hall.out
                rwa [List.take_of_length_le (by omega)] at this
              obtain rfl : k = m + 1 := by omega
              replace hA := hide hA
              clear hall
              have hcm := hcell.out m (by omega)
              have hgl2 : ws.getLast? = some (ws[m]'(by omega)) := by rw [List.getLast?_eq_getElem?, show ws.length - 1 = m by omega, List.getElem?_eq_getElem (by omega)]
              generalize ws[m]'(by omega) = z at *
              have hmI : (m : Int) < (m : Int) + 1 := by omega
              by_cases hz : z = [48]
              · have hzq : (z == [48]) = true := by rw [hz]; rfl
                have e2 : P = ([], 2) := by
                  rw [e.out]
                  unfold refN
                  rw [if_pos (List.all_eq_true.2 hA.out), if_pos (by rw [hgl2, hz])]
                subst e2
                clear hz hgl2
                go_wp2_with fail
                go_ret2
                exact ⟨_, rfl, World.ownsRow_nil _ _ _ _, hB⟩
              · have hzq : (z == [48]) = false := by rw [beq_eq_false_iff_ne]; exact hz
                have hL : ws.getLast? ≠ some [48] := by rw [hgl2]; intro h; exact hz (Option.some.inj h)
                replace hL := hide hL
                clear hz hgl2
                by_cases h8 : 8 < (m : Int) + 1
                · have e2 : P = ([], 4) := by
                    rw [e.out]
                    unfold refN
                    rw [if_pos (List.all_eq_true.2 hA.out), if_neg hL.out, if_pos (by omega)]
                  subst e2
                  go_wp2_with fail
                  go_ret2
                  exact ⟨_, rfl, World.ownsRow_nil _ _ _ _, hB⟩
                · go_wp2_with fail
                  go_loopw [6, 7] (fun v i wr => ∃ k : Nat, i = .int .i64 (k : Int) ∧ k ≤ m + 1 ∧ (∀ x ∈ ws.take k, decTo x 0 ≤ 1048576) ∧ wr.ownsRow w1.heap.size 3 1 v k (((ws.take k).map (decTo · 0)).map (Value.int .i64)) ∧ Below w1.heap.size w1 wr) (fun _ i _ => m + 1 - (intOf i).toNat)
                  case atStart => exact ⟨0, rfl, Nat.zero_le _, by simp, World.ownsRow_nil _ _ _ _, Below.refl _ _⟩
                  case round =>
                    obtain ⟨k, rfl, hk, hsmall, hown, hB2⟩ := hrel
                    replace hsmall := hide hsmall
                    have hbs := hB2.size
                    by_cases hkl : k < m + 1
                    · have hlt : (k : Int) < (m : Int) + 1 := by omega
                      have hc : wr.cell? ⟨g, k, none⟩ = _ := (hB2.cell (p := ⟨g, k, none⟩) hgl).trans (hcell.out k (by omega))
                      have hxl := hwl.out k (by omega)
                      have hxm := List.getElem_mem (show k < ws.length by omega)
                      have hts := hide (mem_take_snoc ws k (by omega))
                      have htk := hide (List.take_succ_eq_append_getElem (l := ws) (i := k) (by omega))
                      generalize ws[k]'(by omega) = x at *
                      have hok := hA.out x hxm
                      have hdv := decTo_ok hok
                      have hv0 := valTo_ge x 0 (decOk_parts hok).2.2 (Int.le_refl _)
                      have hnc := hide (refNumber_calls ⟨x.toArray⟩ wr (by simp [ByteArray.size]; omega) hok)
                      rw [show (⟨x.toArray⟩ : ByteArray).data.toList = x from rfl] at hnc
                      by_cases hle : decTo x 0 ≤ 1048576
                      · have e1 : numV x = decTo x 0 := by unfold numV; rw [if_pos (by omega)]; omega
                        have e2 : numB x = true := by unfold numB; exact decide_eq_true (by omega)
                        have hd0 : 0 ≤ decTo x 0 := by omega
                        rw [e1, e2] at hnc
                        have hgd : ¬ 1048576 < decTo x 0 := by omega
                        clear hdv hv0 e1 e2
                        obtain ⟨y, hy⟩ : ∃ y, decTo x 0 = y := ⟨_, rfl⟩
                        rw [hy] at hnc hle hd0 hgd
                        replace hy := hide hy
                        go_wp2_with (first | (go_at_call 69; refine hnc.out.mono ?_; rintro e w' ⟨rfl, rfl⟩) | (at_builtin; refine wpList_append_own _ rfl _ _ 54 rfl w1.heap.size 3 i0 (.int .i64 0) 1 8 Tryz.underlying54 hi hz0 hz1 hz2 rfl (by decide) _ _ _ rfl (hown.alloc _) ⟨_, 0, none⟩ 1 1 [.int .i64 y] rfl rfl (cell_one_new _ _ _) (by intro u hu; simp at hu; subst hu; rfl) (by unfold maxLen; omega) (by omega) (by simp; omega) ?_; intro v2 w2 hown2 hgrow2 _))
                        refine ⟨⟨k + 1, by go_num, by omega, fun q hq => ?_, ?_, (hB2.alloc hB2.size _).grown hgrow2 (by simp; omega) (fun j hj => (hown.lt j hj).1)⟩, by simp [intOf]; omega⟩
                        · rcases hts.out q hq with h | rfl
                          · exact hsmall.out q h
                          · rw [hy.out]; exact hle
                        · rw [htk.out, List.map_append, List.map_append]
                          simp only [List.map_cons, List.map_nil, hy.out]
                          exact hown2
                      · have e2 : P = ([], 4) := by rw [e.out]; exact refN_big hA.out hL.out hxm hle
                        subst e2
                        by_cases hle2 : valTo x 0 ≤ 2147483647
                        · have e1 : numV x = valTo x 0 := by unfold numV; rw [if_pos hle2]
                          have e2 : numB x = true := by unfold numB; exact decide_eq_true hle2
                          rw [e1, e2] at hnc
                          have hgd : 1048576 < valTo x 0 := by omega
                          clear hdv e1 e2 hle
                          generalize valTo x 0 = y at *
                          go_wp2_with (go_at_call 69; refine hnc.out.mono ?_; rintro e w' ⟨rfl, rfl⟩)
                          go_ret2
                          exact ⟨_, rfl, World.ownsRow_nil _ _ _ _, hB.trans (hB2.mono hB.size)⟩
                        · have e1 : numV x = 0 := by unfold numV; rw [if_neg hle2]
                          have e2 : numB x = false := by unfold numB; exact decide_eq_false hle2
                          rw [e1, e2] at hnc
                          clear hdv e1 e2 hle hle2 hv0
                          go_wp2_with (go_at_call 69; refine hnc.out.mono ?_; rintro e w' ⟨rfl, rfl⟩)
                          go_ret2
                          exact ⟨_, rfl, World.ownsRow_nil _ _ _ _, hB.trans (hB2.mono hB.size)⟩
                    · have hS2 : ∀ x ∈ ws, decTo x 0 ≤ 1048576 := by
                        have := hsmall.out
                        rwa [List.take_of_length_le (by omega)] at this
                      have e2 : P = (ws.map (decTo · 0), 0) := by rw [e.out]; exact refN_good hA.out hL.out (by omega) hS2
                      subst e2
                      rw [List.take_of_length_le (by omega)] at hown
                      clear hS2 hsmall
                      go_wp2_with fail
                      go_ret2
                      exact ⟨_, rfl, by rw [show k = m + 1 by omega, List.map_map] at hown; exact ownsRow_low hown hB.size, hB.trans (hB2.mono hB.size)⟩
      · have h4' : (((s[s.size - 1].toNat : Nat) : Int) != 93) = true := by
          rw [bne_iff_ne]
          intro e'
          exact h4 (UInt8.toNat_inj.1 (by simp; omega))
        have e : P = ([], 2) := by
          rw [← HP.out]
          refine parse_no ?_
          rintro ⟨x, hx⟩
          apply h4
          have hl : s.size = x.length + 2 := by rw [Lib.size_eq, hx]; simp
          have : s[s.size - 1] = s.data.toList[s.size - 1]'(by rw [← Lib.size_eq]; exact hl1) := rfl
          rw [this]
          simp only [hx, hl]
          simp
        subst e
        go_enter Tryz.func92, Tryz.ntmps92
        go_wp2_with fail
        go_ret2
        exact ⟨_, rfl, World.ownsRow_nil _ _ _ _, Below.refl _ _⟩
    · have h3' : (((s[0].toNat : Nat) : Int) != 91) = true := by
        rw [bne_iff_ne]
        intro e'
        exact h3 (UInt8.toNat_inj.1 (by simp; omega))
      have e : P = ([], 2) := by
        rw [← HP.out]
        refine parse_no ?_
        rintro ⟨x, hx⟩
        apply h3
        have : s[0] = s.data.toList[0]'(by rw [← Lib.size_eq]; exact h0) := rfl
        rw [this]
        simp only [hx]
        rfl
      subst e
      go_enter Tryz.func92, Tryz.ntmps92
      go_wp2_with fail
      go_ret2
      exact ⟨_, rfl, World.ownsRow_nil _ _ _ _, Below.refl _ _⟩

theorem refParse_calls (s : ByteArray) (w : World) (hs : s.size ≤ 1048576) :
    Calls Tryz.prog 92 #[.string s] w fun e w' => ∃ v, e = .returned (.tuple #[v, .int .i64 (parseL s.data.toList).2]) ∧ IsNums .i64 w' v (parseL s.data.toList).1 ∧ Below w.heap.size w w' := by
  refine (refParseO_calls s w hs).mono ?_
  rintro e w' ⟨v, rfl, ho, hB⟩
  exact ⟨v, rfl, IsNums.of_row ho, hB⟩

end Go.Proofs.YtncmocmmkbmmjaaGreatDoor

/- Steps of a region that draws; rows of structs; rec's Of. Own work; no statement. -/
set_option linter.unusedSimpArgs false
set_option linter.unusedVariables false
namespace Go.Proofs.YtncmocmmkbmmjaaGreatDoor
open Go.RowKit Go.Sort

section
variable {P : Program} {ops : Array Oper} {o : Oper} {a : Act} {w : World} {K : Act → World → Prop} {Q : Exit → Act → World → Prop} {E : Prop}

/-- A call of a Go function by its contract, as a step of a region that draws. -/
theorem step_call (hg : o.guard = none) (f : FuncId) (args : Array Value) {R : Ending → World → Prop} (hrun : (execOp a.eval o).run P w = .ok (.enter f args) w) (hc : Calls P f args w R)
    (hR : ∀ e w', R e w' → ∃ v, e = .returned v ∧ K (a.put o.dst v) w') : if Region.wanted o (yielded ops a.tmps) = true then Oper.wp P o a w K Q else E := by
  rw [if_pos (by simp [Region.wanted, hg])]
  unfold Oper.wp
  rw [hrun]
  simp only [Oper.upon]
  refine hc.mono fun e w' h => ?_
  obtain ⟨v, rfl, hk⟩ := hR e w' h
  exact hk

/-- append to a row of one's own, as such a step. -/
theorem step_append (hg : o.guard = none) (s x : Operand) (t : TypeId) (hop : o.op = Op.call { callee := Callee.builtin Builtin.append, args := #[s, x], argTypes := #[t, t] })
    (base : Nat) (e : TypeId) (i : TypeInfo) (z : Value) (size bytes : Nat) (h1 : P.underlying t = some (.slice e)) (h2 : P.info? e = some i) (h3 : i.zero = some z) (h4 : i.size = size) (h5 : i.bytes = bytes) (h6 : z.cells.size = size) (h7 : 0 < size)
    (v : Value) (n : Nat) (xs : List Value) (hs : a.eval s = v) (hown : w.ownsRow base e size v n xs) (ad : Addr) (m c : Nat) (news : List Value) (hx : a.eval x = .slice (some ad) m c) (hn : news.length = m * size) (hc : ∀ j u, news[j]? = some u → w.cell? (ad.add j) = some u) (h1c : ∀ u ∈ news, u.oneCell' = true)
    (b1 : n + m ≤ maxLen) (b2 : (n + m) * bytes ≤ 140737488355328) (hb : base ≤ w.heap.size)
    (hK : ∀ v' w', w'.ownsRow base e size v' (n + m) (xs ++ news) → w.grownBy w' v.ownBlock → K (a.put o.dst v') w') : if Region.wanted o (yielded ops a.tmps) = true then Oper.wp P o a w K Q else E := by
  rw [if_pos (by simp [Region.wanted, hg])]
  obtain ⟨v', w', hrun, r1, r2, _⟩ := run_append_own (P := P) w base t o.type e i z size bytes h1 h2 h3 h4 h5 h6 h7 v n xs hown ad m c news hn hc h1c b1 b2 hb
  unfold Oper.wp
  simp [execOp, hop, resolve, invoke, builtin, hs, hx, hrun, Result.andThen]
  exact hK v' w' r1 r2
end

/-- At ⟨b, o⟩ there lies the record r. -/
def RecAt (w : World) (b o : Nat) (r : RecD) : Prop :=
  ∃ a cap, w.cell? ⟨b, o, none⟩ = some (.int .i64 r.site) ∧ w.cell? ⟨b, o + 1, none⟩ = some (.int .i64 r.seq) ∧ w.cell? ⟨b, o + 2, none⟩ = some (.slice a r.dep.length cap) ∧ w.cell? ⟨b, o + 3, none⟩ = some (.string r.key) ∧ w.cell? ⟨b, o + 4, none⟩ = some (.string r.val) ∧
    IsNums .i64 w (.slice a r.dep.length cap) r.dep
theorem RecAt.below {w w' : World} {b o : Nat} {r : RecD} (h : RecAt w b o r) (hb : Below w.heap.size w w') : RecAt w' b o r := by
  obtain ⟨a, cap, h0, h1, h2, h3, h4, hn⟩ := h
  have hlt : b < w.heap.size := World.block_lt_of_cell? w _ h0
  exact ⟨a, cap, (hb.cell (p := ⟨b, o, none⟩) hlt).trans h0, (hb.cell (p := ⟨b, o + 1, none⟩) hlt).trans h1, (hb.cell (p := ⟨b, o + 2, none⟩) hlt).trans h2, (hb.cell (p := ⟨b, o + 3, none⟩) hlt).trans h3, (hb.cell (p := ⟨b, o + 4, none⟩) hlt).trans h4, hn.below hb⟩

/-- In the world w the slice v reads as the records l. -/
def IsRecs (w : World) (v : Value) (l : List RecD) : Prop :=
  ∃ a cap, v = .slice a l.length cap ∧ ∀ t (h : t < l.length), ∃ b o, a = some ⟨b, o, none⟩ ∧ RecAt w b (o + t * 5) l[t]
theorem IsRecs.below {w w' : World} {v : Value} {l : List RecD} (h : IsRecs w v l) (hb : Below w.heap.size w w') : IsRecs w' v l := by
  obtain ⟨a, cap, rfl, h⟩ := h
  exact ⟨a, cap, rfl, fun t ht => let ⟨b, o, e, hr⟩ := h t ht; ⟨b, o, e, hr.below hb⟩⟩

/-- A record of a site, its place, and the slice of its numbers. -/
structure Pl where
  i : Int
  r : RecD
  vd : Value
def Pl.cells (p : Pl) : List Value := [.int .i64 p.i, .int .i64 p.r.site, .int .i64 p.r.seq, p.vd, .string p.r.key, .string p.r.val]

/-- The records of a site among the first k, with their places. -/
def placedTo (l : List RecD) (site : Int) : Nat → List (Int × RecD)
  | 0 => []
  | k + 1 => placedTo l site k ++ (match l[k]? with | some r => if r.site = site then [((k : Int), r)] else [] | none => [])

theorem rows_apart {W : World} {B B' : Nat} {e e' : TypeId} {s s' : Nat} {v v' : Value} {n n' : Nat} {xs ys : List Value} (he : e ≠ e') (h : W.ownsRow B e s v n xs) (h' : W.ownsRow B' e' s' v' n' ys) (k : Nat) (hk : v.ownBlock = some k) : v'.ownBlock ≠ some k := by
  intro hk'
  rcases h.2 with ⟨rfl, _⟩ | ⟨g, cap, cur, rfl, _, hg, _⟩
  · cases hk
  · rcases h'.2 with ⟨rfl, _⟩ | ⟨g', cap', cur', rfl, _, hg', _⟩
    · cases hk'
    · have e1 : g = k := by simpa [Value.ownBlock] using hk
      have e2 : g' = k := by simpa [Value.ownBlock] using hk'
      subst e1
      subst e2
      rw [hg] at hg'
      simp only [Option.some.injEq, Obj.cells.injEq] at hg'
      exact he hg'.2.1

end Go.Proofs.YtncmocmmkbmmjaaGreatDoor

/- rec's Of: the records of a site, with their places. Own work; no statement. -/
set_option linter.unusedSimpArgs false
set_option linter.unusedVariables false
namespace Go.Proofs.YtncmocmmkbmmjaaGreatDoor
open Go.RowKit Go.Sort
theorem placedTo_skip {l : List RecD} {site : Int} {k : Nat} (hk : k < l.length) (h : ¬ l[k].site = site) : placedTo l site (k + 1) = placedTo l site k := by
  simp only [placedTo, List.getElem?_eq_getElem hk, if_neg h, List.append_nil]
theorem placedTo_take {l : List RecD} {site : Int} {k : Nat} (hk : k < l.length) (h : l[k].site = site) : placedTo l site (k + 1) = placedTo l site k ++ [((k : Int), l[k])] := by
  simp only [placedTo, List.getElem?_eq_getElem hk, if_pos h]
theorem placedTo_length (l : List RecD) (site : Int) : ∀ k, (placedTo l site k).length ≤ k
  | 0 => by simp [placedTo]
  | k + 1 => by
    have := placedTo_length l site k
    simp only [placedTo, List.length_append]
    split
    · split <;> simp <;> omega
    · simp; omega

theorem cells_new {W : World} {c : Array Value} {e : TypeId} {g : Nat} (h : g = W.heap.size) : ∀ j u, c.toList[j]? = some u → (W.alloc (.cells c e)).cell? ((⟨g, 0, none⟩ : Addr).add j) = some u := by
  subst h
  intro j u hj
  rw [Addr.add_lit, Nat.zero_add, World.cell?_alloc_at _ _ _ _ rfl]
  simpa using hj

theorem six_one {p : Pl} {a : Option Addr} {n c : Nat} (h : p.vd = .slice a n c) : ∀ u ∈ p.cells, u.oneCell' = true := by
  intro u hu
  simp only [Pl.cells, h, List.mem_cons, List.not_mem_nil, or_false] at hu
  rcases hu with rfl | rfl | rfl | rfl | rfl | rfl <;> rfl

end Go.Proofs.YtncmocmmkbmmjaaGreatDoor

/- A range over a function that makes memory of its own between two rounds, over loop variables that lie in memory: what it hands over is told by a relation E, what the assignment makes of it by a relation Ax. Own work; no statement. -/
set_option linter.unusedSimpArgs false
set_option linter.unusedVariables false
namespace Go.Proofs.YtncmocmmkbmmjaaGreatDoor
open Go.RowKit Go.Shelf

section
variable {α : Type} {P : Program} {n : Nat}

/-- The iterator's contract: from a world A it comes to a world B by E x A B, and hands x over there. -/
def SeqR (n : Nat) (P : Program) (g : Nat) (lb : Array Value) (encs : α → Array Value) (Kp : World → World → Prop) (E : α → World → World → Prop) (S Sp : List α → Prop) (N : Nat) (w : World) : Prop :=
  ∀ (l : Nat) (J Jx : List α → World → Prop) (W : World), Below w.heap.size w W →
    (∀ pre x A B, J pre A → E x A B → pre.length < N → YieldAt Fence.wide (n - 1) P l (encs x) B fun e C => (e = .returned (.bool true) ∧ J (pre ++ [x]) C ∧ Kp B C) ∨ (e = .returned (.bool false) ∧ Jx (pre ++ [x]) C)) →
    J [] W → CallsIn Fence.wide n P g (#[.func (.yield l) #[] #[]] ++ lb) W fun e B => (∃ v, e = .returned v) ∧ ((∃ xs, S xs ∧ J xs B) ∨ (∃ pre, Sp pre ∧ Jx pre B))

theorem range_lawR {g : Operand} {ps : Array Tmp} {assign body : Code} {Q : Exit → Act → World → Prop} {a : Act} {w : World} (h1 : 1 ≤ n) {gf : Nat} {lb : Array Value} (hg : a.eval g = .func (.func gf) #[] lb)
    (eg : ∀ args w, (callFunc gf args).run P w = .ok (.enter gf args) w) {encs : α → Array Value} {Kp : World → World → Prop} {E : α → World → World → Prop} {S Sp : List α → Prop} {N : Nat} (hseq : SeqR (n - 1) P gf lb encs Kp E S Sp N w)
    (hKt : ∀ {A B C : World}, Kp A B → Kp B C → Kp A C) (hKb : ∀ (W : World) (l : Nat) (o o' : Obj), w.heap.size ≤ l → W.heap[l]? = some o → o.isCells = false → o.isWalk = false → Kp W (W.putObj l o'))
    (hE : ∀ x A B, E x A B → KeepsFrom w.heap.size A B) (hps : ∀ x, (encs x).size = ps.size)
    (I : List α → World → Prop) (Ix : Code → List α → World → Prop) (hI : OwnFrom w.heap.size I) (hIx : ∀ c, OwnFrom w.heap.size (Ix c))
    (h0 : I [] w) (Ax : α → World → Act → World → Prop)
    (hAp : ∀ x A a' W' l o o', Ax x A a' W' → w.heap.size ≤ l → A.heap[l]? = some o → W'.heap[l]? = some o → o.isCells = false → Ax x (A.putObj l o') a' (W'.putObj l o'))
    (hassign : ∀ (l : Nat) (pre : List α) (x : α) (A W : World) (K : Act → World → Prop), I pre A → E x A W → pre.length < N → (∀ a' W', Ax x A a' W' → KeepsFrom w.heap.size W W' → Kp W W' → K a' W') →
      assign.wpIn (Fence.wide.inRound l) (n - 1 - 1) P (Exit.then K (fun _ _ _ => False)) { tmps := (ps.zip (encs x)).foldl (fun t (p, v) => t.setIfInBounds p v) a.tmps, defers := [] } W)
    (hbody : ∀ (l : Nat) (pre : List α) (x : α) (A : World) (a' : Act) (W : World), I pre A → Ax x A a' W → pre.length < N → body.wpIn (Fence.wide.inRound l) (n - 1 - 1) P (ownPostG w.heap.size Kp I Ix (pre ++ [x]) W) a' W)
    (hdone : ∀ (D : Nat) (xs : List α) (W : World), w.heap.size ≤ D → S xs → I xs W → W.heap[D]? = some (.deferred (some [])) → Q .normal { a with defers := { target := .collected D, args := #[] } :: a.defers } W)
    (hstop : ∀ (D : Nat) (c : Code) (pre : List α) (W : World), w.heap.size ≤ D → Sp pre → Ix c pre W → W.heap[D]? = some (.deferred (some [])) → c.wpIn Fence.wide n P Q { a with defers := { target := .collected D, args := #[] } :: a.defers } W) :
    (Code.rangeFunc g ps assign body).wpIn Fence.wide n P Q a w := by
  refine wpIn_rangeFunc fun fn _ => ?_
  generalize hD : w.heap.size = D at *
  let r : Loop := { state := .ready, pending := none, fn, tmps := a.tmps, params := ps, assign, body, defers := D }
  let w1 : World := (w.alloc (.deferred (some []))).alloc (.loop r)
  have bk1 : Book D r w1 := by
    refine ⟨?_, ?_⟩
    · have := World.alloc_heap_new (w.alloc (.deferred (some []))) (.loop r)
      rwa [World.size_alloc, hD] at this
    · have := World.alloc_heap_new w (.deferred (some []))
      rw [hD] at this
      exact (Below.heap_alloc _ _ _ (by simp; omega)).trans this
  have i1 : I [] w1 := hI.alloc _ (hI.alloc _ h0)
  have b1 : Below w.heap.size w w1 := ((Below.refl _ w).alloc (Nat.le_refl _) _).alloc (by simp) _
  refine ⟨D + 1, [{ target := .collected D, args := #[] }], w1, { target := .fn (.func gf) lb, args := #[.func (.yield (D + 1)) #[] #[]] }, w1, gf, #[.func (.yield (D + 1)) #[] #[]] ++ lb, w1, ?_, ?_, fun _ _ => trivial, ?_, fun _ => h1, ?_⟩
  · rw [← hD]
    have := run_enterLoop_outer (P := P) (w := w) fn a.tmps ps assign body
    simp only [w1, r, ← hD]
    exact this
  · simp only [resolve, hg]
    simp [go_sem]
  · simp [invoke, go_sem, eg]
  · refine (hseq (D + 1) (fun pre W => I pre W ∧ Book D r W) (fun pre W => ∃ c, Ix c pre W ∧ Book D { r with state := .done, pending := some c } W) w1 b1 ?_ ⟨i1, bk1⟩).mono ?_
    · rintro pre x A W ⟨hi, hbA⟩ hEx hlen
      have hb : Book D r W := hbA.from (Nat.le_refl _) (hE x A W hEx)
      refine ⟨fn, _, assign, body, run_yield hb.1 (hps x), roundIn_of_wpIn trivial (hassign _ pre x A W _ hi hEx hlen fun a' W' hax hkf hkp => ?_)⟩
      have hbW : Book D r W' := hb.from (Nat.le_refl _) hkf
      refine ⟨_, run_beginRound hbW.1 rfl, ?_⟩
      have hb2 := hbW.put { r with state := .busy }
      have k2 : Kp W (W'.putObj (D + 1) (.loop { r with state := .busy })) := hKt hkp (hKb _ _ _ _ (by omega) hbW.1 rfl rfl)
      refine wpIn_mono (hbody _ pre x _ a' _ (hI.putObj _ hi (by omega) hbA.1 rfl) (hAp x A a' W' (D + 1) (.loop r) _ hax (by omega) hbA.1 hbW.1 rfl) hlen) fun e a3 W3 hp => ?_
      have left : ∀ c, KeepsFrom D (W'.putObj (D + 1) (.loop { r with state := .busy })) W3 → Ix c (pre ++ [x]) W3 → ∃ v W4, (Instr.endRound (D + 1) (some c)).run P W3 = .ok v W4 ∧ ((Ending.returned v = .returned (.bool true) ∧ (I (pre ++ [x]) W4 ∧ Book D r W4) ∧ Kp W W4) ∨ (Ending.returned v = .returned (.bool false) ∧ ∃ c, Ix c (pre ++ [x]) W4 ∧ Book D { r with state := .done, pending := some c } W4)) := fun c hk hi3 => by
        obtain ⟨hr, hl, hb4⟩ := round_end (P := P) hb2 (some c) hk
        exact ⟨_, _, hr, .inr ⟨rfl, c, (hIx c).putObj _ hi3 (by omega) hl rfl, hb4⟩⟩
      cases e with
      | normal =>
        obtain ⟨hk, hkp, hi3⟩ := hp
        obtain ⟨hr, hl, hb4⟩ := round_end (P := P) hb2 none hk
        exact ⟨_, _, hr, .inl ⟨rfl, ⟨hI.putObj _ hi3 (by omega) hl rfl, hb4⟩, hKt (hKt k2 hkp) (hKb _ _ _ _ (by omega) hl rfl rfl)⟩⟩
      | ret => exact left _ hp.1 hp.2
      | exit id => exact left _ hp.1 hp.2
      | goto t => exact left _ hp.1 hp.2
      | panic _ => exact hp.elim
      | outgrown => exact hp.elim
    · rintro e W2 ⟨⟨v, rfl⟩, (⟨xs, hS, hi, hb⟩ | ⟨pre, hSp, c, hi, hb⟩)⟩
      · exact ⟨none, _, run_endLoop hb.1 (by simp [r]), hdone _ xs _ (Nat.le_refl _) hS (hI.putObj _ hi (by omega) hb.1 rfl) (hb.put _).2⟩
      · exact ⟨some c, _, run_endLoop hb.1 (by simp), hstop _ c pre _ (Nat.le_refl _) hSp ((hIx c).putObj _ hi (by omega) hb.1 rfl) (hb.put _).2⟩
end

end Go.Proofs.YtncmocmmkbmmjaaGreatDoor

/- A region that draws its order: its first n operations read, or call what makes memory of its own, in whatever order; the others come behind them, one by one. One walk of the text's order serves. Own work; no statement. -/
set_option linter.unusedSimpArgs false
set_option linter.unusedVariables false
namespace Go.Proofs.YtncmocmmkbmmjaaGreatDoor
open Go.RowKit Go.Sort

section
variable {F : Fence} {n : Nat} {P : Program} {ops : Array Oper} {C : World → Prop}

/-- f operations more in whatever order, each of them quiet; then L. -/
def HeadIn (F : Fence) (n : Nat) (P : Program) (ops : Array Oper) (C : World → Prop) (L : Array Bool → Act → Prop) : Nat → Array Bool → Act → Prop
  | 0, done, a => L done a
  | f + 1, done, a => Region.ready .any ops done ≠ [] ∧ ∀ i ∈ Region.ready .any ops done, qOpIn F n P ops C i (HeadIn F n P ops C L f (done.setIfInBounds i true)) a

/-- Whatever f operations come up from here, they leave the marks M. -/
def headOk (ops : Array Oper) (M : Array Bool) : Nat → Array Bool → Bool
  | 0, done => done == M
  | f + 1, done => !(Region.ready .any ops done).isEmpty && (Region.ready .any ops done).all fun i => headOk ops M f (done.setIfInBounds i true)

theorem headOk_ready {M : Array Bool} {f : Nat} {done : Array Bool} (h : headOk ops M (f + 1) done = true) : Region.ready .any ops done ≠ [] ∧ ∀ i ∈ Region.ready .any ops done, headOk ops M f (done.setIfInBounds i true) = true := by
  simp only [headOk, Bool.and_eq_true, Bool.not_eq_true', List.isEmpty_eq_false_iff, List.all_eq_true] at h
  exact h

theorem unmarked {i j : Nat} {done : Array Bool} (hi : done.getD i true = false) (hij : i ≠ j) : done.setIfInBounds i true ≠ done.setIfInBounds j true := by
  intro e
  have h1 : (done.setIfInBounds i true).getD i false = true := by
    by_cases hlt : i < done.size
    · simp [hlt]
    · simp [Array.getElem?_eq_none (Nat.le_of_not_lt hlt)] at hi
  rw [e] at h1
  have h2 : (done.setIfInBounds j true).getD i false = done.getD i false := getD_set_ne false (Ne.symm hij)
  rw [h2] at h1
  by_cases hlt : i < done.size
  · simp [hlt] at hi h1
    rw [hi] at h1
    cases h1
  · simp [Array.getElem?_eq_none (Nat.le_of_not_lt hlt)] at hi

/-- What may come up first may be taken first. -/
theorem HeadIn.first {L : Array Bool → Act → Prop} {M : Array Bool} {i : Nat} {oi : Oper} {v : Value} (hi : ops[i]? = some oi) (hsel : ∀ (j : Nat) (o : Oper) cs b, ops[j]? = some o → o.op ≠ .select cs b) :
    ∀ (f : Nat) (done : Array Bool) (a : Act), headOk ops M (f + 1) done = true →
      (∀ j oj, ops[j]? = some oj → j ≠ i → done.getD j true = false → (∀ e ∈ oj.after, Region.binds .any e = true → e.on ≠ i) → oi.apart ops oj = true) →
      i ∈ Region.ready .any ops done → YieldsQuiet F n P ops C oi v a → HeadIn F n P ops C L f (done.setIfInBounds i true) (a.put oi.dst v) → HeadIn F n P ops C L (f + 1) done a := by
  intro f
  induction f with
  | zero =>
    intro done a hok _ hr hy H
    obtain ⟨hne, hall⟩ := headOk_ready hok
    refine ⟨hne, fun j hj => ?_⟩
    by_cases hji : j = i
    · subst hji
      exact hy.qOpIn hi H
    · have e1 : done.setIfInBounds i true = M := by simpa [headOk] using hall i hr
      have e2 : done.setIfInBounds j true = M := by simpa [headOk] using hall j hj
      exact absurd (e1.trans e2.symm) (unmarked (mem_ready.1 hr).1 (Ne.symm hji))
  | succ f ih =>
    intro done a hok hfree hr hy H
    obtain ⟨hne, hall⟩ := headOk_ready hok
    refine ⟨hne, fun j hj => ?_⟩
    by_cases hji : j = i
    · subst hji
      exact hy.qOpIn hi H
    · obtain ⟨hjun, oj, hoj, hafter⟩ := mem_ready.1 hj
      have hno : ∀ e ∈ oj.after, Region.binds .any e = true → e.on ≠ i := by
        intro e he hb heq
        have h1 := hafter e he hb
        have h2 := (mem_ready.1 hr).1
        rw [heq] at h1
        by_cases hlt : i < done.size
        · simp [hlt] at h1 h2
          rw [h2] at h1
          cases h1
        · simp [Array.getElem?_eq_none (Nat.le_of_not_lt hlt)] at h1
      have hq := qOpIn_put hoj (hfree j oj hoj hji hjun hno) (fun cs b => hsel i oi cs b hi) (fun cs b => hsel j oj cs b hoj) hy (H.2 j (ready_mono hj hji))
      refine qOpIn_mono (fun a' ⟨hy', hH⟩ => ih _ a' (hall j hj) ?_ (ready_mono hr (Ne.symm hji)) hy' ?_) hq
      · intro k ok hk hki hun hafter'
        refine hfree k ok hk hki ?_ hafter'
        by_cases hjk : j = k
        · subst hjk
          exact hjun
        · rwa [getD_set_ne true hjk] at hun
      · rw [Array.setIfInBounds_comm _ _ hji]
        exact hH

/-- The first operations by the walk of the text's order. -/
theorem headIn_lex {Q : Act → Prop} {M : Array Bool} {g : Nat} (hs : Region.noSelect ops = true) : ∀ (l : List Oper) (k : Nat) (done : Array Bool) (a : Act), (∀ j, j < l.length → l[j]? = ops[k + j]?) →
    Region.lexHead .any ops g l.length k done = true → headOk ops M l.length done = true → wpQuietIn F n P ops C Q l a → HeadIn F n P ops C (fun d a => d = M ∧ Q a) l.length done a
  | [], _, _, _, _, _, hM, h => ⟨by simpa [headOk] using hM, h⟩
  | o :: l, k, done, a, hl, hB, hM, h => by
    have h0 : ops[k]? = some o := by simpa using (hl 0 (by simp)).symm
    simp only [List.length_cons, Region.lexHead, Bool.and_eq_true] at hB
    obtain ⟨⟨hr, hf⟩, hB'⟩ := hB
    have hr' : k ∈ Region.ready .any ops done := by simpa using hr
    have hq : qOpIn F n P ops C k (wpQuietIn F n P ops C Q l) a := by
      unfold qOpIn
      simp only [h0]
      exact h
    obtain ⟨v, hy, hK⟩ := yieldsQuiet_of_qOpIn h0 hq
    refine HeadIn.first h0 (Region.noSelect_spec hs) l.length done a hM (Region.free_spec h0 hf) hr' hy ?_
    refine headIn_lex hs l (k + 1) _ _ (fun j hj => ?_) hB' ((headOk_ready hM).2 k hr') hK
    have := hl (j + 1) (by simp; omega)
    simpa [Nat.add_assoc, Nat.add_comm 1 j] using this

theorem headIn_sound {L : Array Bool → Act → Prop} {Q : Exit → Act → World → Prop} {g : Nat} (hro : F.round = none) (hL : ∀ d a w, C w → L d a → wpAnyIn F n P .any ops Q g d a w) :
    ∀ (f : Nat) (done : Array Bool) (a : Act) (w : World), C w → HeadIn F n P ops C L f done a → wpAnyIn F n P .any ops Q (f + g) done a w
  | 0, done, a, w, hw, h => by rw [Nat.zero_add]; exact hL done a w hw h
  | f + 1, done, a, w, hw, h => by
    rw [Nat.add_right_comm]
    exact ⟨fun e => absurd e h.1, fun i hi => wpOpIn_of_qOpIn hro hw (fun a' w' hw' h' => headIn_sound hro hL f _ a' w' hw' h') (h.2 i hi)⟩

/-- What comes one by one. -/
theorem anyIn_seq {Q : Exit → Act → World → Prop} : ∀ (l : List Oper) (k : Nat) (done : Array Bool) (a : Act) (w : World), (∀ j, l[j]? = ops[k + j]?) →
    Region.seqB .any ops l.length k done = true → wpListIn F n P ops Q l a w → wpAnyIn F n P .any ops Q l.length done a w
  | [], _, _, _, _, _, hB, h => ⟨by simpa [Region.seqB] using hB, h⟩
  | o :: l, k, done, a, w, hl, hB, h => by
    have h0 : ops[k]? = some o := by simpa using (hl 0).symm
    simp only [List.length_cons, Region.seqB, Bool.and_eq_true, decide_eq_true_eq] at hB
    obtain ⟨hr, hB'⟩ := hB
    refine ⟨fun e => (by rw [hr] at e; cases e), fun i hi => ?_⟩
    rw [hr] at hi
    obtain rfl : i = k := by simpa using hi
    have hop : wpOpIn F n P ops Q i (wpListIn F n P ops Q l) a w := by
      unfold wpOpIn
      simp only [h0]
      exact h
    refine wpOpIn_mono (fun a' w' h' => anyIn_seq l (i + 1) _ a' w' (fun j => ?_) hB' h') hop
    have := hl (j + 1)
    simpa [Nat.add_assoc, Nat.add_comm 1 j] using this

/-- What a kernel may reckon of a region: its first m operations come in whatever order, the others behind them, one by one. -/
def tailOk (ops : Array Oper) (m : Nat) (M : Array Bool) : Bool :=
  Region.noSelect ops && decide (m ≤ ops.size) && Region.lexHead .any ops (ops.size - m) m 0 (Array.replicate ops.size false) && headOk ops M m (Array.replicate ops.size false) && Region.seqB .any ops (ops.size - m) m M

/-- A region that draws: the head by its walk in the class of worlds that keep what lay there; the tail in each such world. -/
theorem regionIn_tail {id : Nat} {Q : Exit → Act → World → Prop} {a : Act} {w : World} {l : List Oper} (m : Nat) (M : Array Bool) (hro : F.round = none) (hm : P.follows .mixedOrders = true) (hB : tailOk l.toArray m M = true)
    (h : wpQuietIn F n P l.toArray (fun w' => ∃ p : Regrown, w' = grow (redrawn w p.d) p.os) (fun a' => ∀ w', (∃ p : Regrown, w' = grow (redrawn w p.d) p.os) → wpListIn F n P l.toArray Q (l.drop m) a' w') (l.take m) a) :
    (Code.region id l.toArray true).wpIn F n P Q a w := by
  simp only [tailOk, Bool.and_eq_true, decide_eq_true_eq] at hB
  obtain ⟨⟨⟨⟨hs, hmn⟩, hlex⟩, hok⟩, hseq⟩ := hB
  have hml : m ≤ l.length := by simpa using hmn
  have htl : (l.take m).length = m := by simp; omega
  have hdl : (l.drop m).length = l.toArray.size - m := by simp
  refine wpIn_region_any hm ?_
  have hC : (fun w' => ∃ p : Regrown, w' = grow (redrawn w p.d) p.os) { w with drawn := w.drawn + 1 } := ⟨⟨w.drawn + 1, #[]⟩, by rw [grow_empty]; rfl⟩
  have H := headIn_lex (F := F) (n := n) (M := M) (g := l.toArray.size - m) hs (l.take m) 0 (Array.replicate l.toArray.size false) a (fun j hj => by rw [htl] at hj; simp [hj]) (by rw [htl]; exact hlex) (by rw [htl]; exact hok) h
  rw [htl] at H
  have R := headIn_sound (Q := Q) (g := l.toArray.size - m) hro (fun d a' w' hw' ⟨e, hq⟩ => by
    subst e
    have := anyIn_seq (F := F) (n := n) (P := P) (Q := Q) (ops := l.toArray) (l.drop m) m d a' w' (fun j => by simp [List.getElem?_drop]) (by rw [hdl]; exact hseq) (hq w' hw')
    rwa [hdl] at this) m _ a _ hC H
  rwa [show m + (l.toArray.size - m) = l.toArray.size by simp; omega] at R
end

end Go.Proofs.YtncmocmmkbmmjaaGreatDoor

/- rec's Of: the sequence that it answers. Own work; no statement. -/
set_option linter.unusedSimpArgs false
set_option linter.unusedVariables false
namespace Go.Proofs.YtncmocmmkbmmjaaGreatDoor
open Go.RowKit Go.Shelf Go.Sort

attribute [local go_sem] Oper.semAt_some

/-- The blocks from lo up to hi are as they were. -/
def KeepsSpan (lo hi : Nat) (W W' : World) : Prop := ∀ k, lo ≤ k → k < hi → W'.heap[k]? = W.heap[k]?
theorem keepsSpan_t {lo hi : Nat} {A B C : World} (h : KeepsSpan lo hi A B) (k : KeepsSpan lo hi B C) : KeepsSpan lo hi A C := fun i h1 h2 => (k i h1 h2).trans (h i h1 h2)
theorem keepsSpan_b {lo hi n : Nat} (hn : hi ≤ n) (W : World) (l : Nat) (o o' : Obj) (hl : n ≤ l) (_ : W.heap[l]? = some o) (_ : o.isCells = false) (_ : o.isWalk = false) : KeepsSpan lo hi W (W.putObj l o') := by
  intro k _ h2
  unfold World.putObj
  simp only [Array.getElem?_setIfInBounds]
  rw [if_neg (by omega)]
theorem KeepsSpan.of_below {lo hi : Nat} {W W' : World} (h : Below W.heap.size W W') (hh : hi ≤ W.heap.size) : KeepsSpan lo hi W W' := fun k _ h2 => h.block k (by omega)

theorem KeepsSpan.size {lo hi : Nat} {W W' : World} (h : KeepsSpan lo hi W W') (hh : hi ≤ W.heap.size) (hl : lo < hi) : hi ≤ W'.heap.size := by
  have e := h (hi - 1) (by omega) (by omega)
  rw [Array.getElem?_eq_getElem (show hi - 1 < W.heap.size by omega)] at e
  have := (Array.getElem?_eq_some_iff.1 e).1
  omega

theorem flat6 : ∀ (pl : List Pl) (k j : Nat) (h : k < pl.length), j < 6 → (pl.flatMap Pl.cells)[k * 6 + j]? = (pl[k]).cells[j]?
  | [], _, _, h, _ => absurd h (by simp)
  | p :: pl, 0, j, _, hj => by
    rw [List.flatMap_cons, List.getElem?_append_left (by simp [Pl.cells]; omega)]
    simp
  | p :: pl, k + 1, j, h, hj => by
    rw [List.flatMap_cons, List.getElem?_append_right (by simp [Pl.cells]; omega)]
    have e : (k + 1) * 6 + j - p.cells.length = k * 6 + j := by simp [Pl.cells]; omega
    rw [e, flat6 pl k j (by simpa using h) hj]
    simp

/-- What the sequence hands over. -/
def encPl (x : Pl) : Array Value := #[.int .i64 x.i, .agg #[.int .i64 x.r.site, .int .i64 x.r.seq, x.vd, .string x.r.key, .string x.r.val]]
/-- From A the sequence has come to B: of what lay there nothing has turned, and x's numbers lie in memory of their own. -/
def GivesPl (x : Pl) (A B : World) : Prop := Below A.heap.size A B ∧ B.ownsRow A.heap.size 3 1 x.vd x.r.dep.length (x.r.dep.map (Value.int .i64)) ∧ x.r.dep.length ≤ 17592186044416

theorem yield_bool {e : Ending} {A B : Prop} (h : (e = .returned (.bool true) ∧ A) ∨ (e = .returned (.bool false) ∧ B)) : ∃ b, e = .returned (.bool b) ∧ ((b = true ∧ A) ∨ (b = false ∧ B)) := by
  rcases h with ⟨rfl, h⟩ | ⟨rfl, h⟩
  · exact ⟨true, rfl, .inl ⟨rfl, h⟩⟩
  · exact ⟨false, rfl, .inr ⟨rfl, h⟩⟩

end Go.Proofs.YtncmocmmkbmmjaaGreatDoor

/- The laws' Rows: what a range over numbers and records tells. Own work; no statement. -/
set_option linter.unusedSimpArgs false
set_option linter.unusedVariables false
namespace Go.Proofs.YtncmocmmkbmmjaaGreatDoor
open Go.RowKit Go.Shelf Go.Sort

attribute [local go_sem] Oper.semAt_some

theorem Tryz.info57 : (Tryz.prog.info? 57).map (fun i => (i.zero, i.size, i.bytes)) = some (some (.agg #[.int .i64 0, .int .i64 0, .slice none 0 0, .string ⟨#[]⟩, .string ⟨#[]⟩]), 5, 72) := by kernel_rfl

theorem size_set (W : World) (a : Addr) (v : Value) : (W.setCell a v).heap.size = W.heap.size := by simp [World.setCell]
/-- 'x = append(x, ..)' by way of x's box B, the rows all beyond the boxes. -/
theorem box_app {W w1 : World} {B n₀ : Nat} {T e : TypeId} {size : Nat} {v v1 : Value} {n m : Nat} {xs ys : List Value} {o : Obj} (hbx : Boxed W B T v) (hrow : W.ownsRow n₀ e size v n xs) (hB : B < n₀) (hn : n₀ ≤ W.heap.size)
    (hown1 : w1.ownsRow n₀ e size v1 m ys) (hgrow : (W.alloc o).grownBy w1 v.ownBlock) :
    Boxed w1 B T v ∧ Boxed (w1.setCell ⟨B, 0, none⟩ v1) B T v1 ∧ (w1.setCell ⟨B, 0, none⟩ v1).ownsRow n₀ e size v1 m ys ∧ KeepsOthers W (w1.setCell ⟨B, 0, none⟩ v1) ∧
      (∀ k, k < W.heap.size → k ≠ B → v.ownBlock ≠ some k → (w1.setCell ⟨B, 0, none⟩ v1).heap[k]? = W.heap[k]?) ∧ (∀ b w, b ≤ B → Below b w W → Below b w (w1.setCell ⟨B, 0, none⟩ v1)) := by
  have hne : some B ≠ v.ownBlock := fun e' => by have := (hrow.lt B e'.symm).1; omega
  have hv1 : Boxed w1 B T v := (hbx.alloc o).kept hgrow hne
  refine ⟨hv1, hv1.set v1, ownsRow_of_heap hown1 (fun k hk => Below.heap_setCell _ _ _ _ (fun e' => by have := (hown1.lt k hk).1; have e2 : k = B := e'; omega)), ?_, ?_, ?_⟩
  · refine ((KeepsOthers.alloc W o).trans (KeepsOthers.of_grownBy hgrow fun j o' ej hj => ?_)).trans (KeepsOthers.setCell _ _ _)
    rcases (hrow.alloc o).2 with ⟨rfl, _⟩ | ⟨g, cap, cur, rfl, _, hgb, _⟩
    · simp [Value.ownBlock] at ej
    · obtain rfl : g = j := by simpa [Value.ownBlock] using ej
      rw [hgb] at hj; cases hj; rfl
  · exact fun k hk hkB hkr => app_other hgrow k hk (fun e' => hkr e'.symm) hkB
  · intro b w hb h
    have := hbx.lt
    exact ((h.alloc (by omega) o).grown hgrow (by simp; omega) (fun j ej => by have := (hrow.lt j ej).1; omega)).setCell (p := ⟨B, 0, none⟩) hb v1

theorem keepsFrom_below {B : Nat} {A W : World} (h : Below A.heap.size A W) : KeepsFrom B A W := ⟨h.size, fun k o _ ho _ => keepB ho h⟩
theorem below_put {A W : World} {l : Nat} {o' : Obj} (h : Below A.heap.size A W) : Below (A.putObj l o').heap.size (A.putObj l o') (W.putObj l o') := by
  refine ⟨h.os, h.tape, h.output, by simpa [World.putObj] using h.size, fun k hk => ?_⟩
  have hk' : k < A.heap.size := by simpa [World.putObj] using hk
  have hs := h.size
  unfold World.putObj
  simp only [Array.getElem?_setIfInBounds]
  by_cases e : l = k
  · subst e
    rw [if_pos rfl, if_pos rfl, if_pos hk', if_pos (by omega)]
  · rw [if_neg e, if_neg e]
    exact h.block k hk'

def Pl.cells5 (p : Pl) : List Value := [.int .i64 p.r.site, .int .i64 p.r.seq, p.vd, .string p.r.key, .string p.r.val]

theorem five_one {p : Pl} {a : Option Addr} {n c : Nat} (h : p.vd = .slice a n c) : ∀ u ∈ p.cells5, u.oneCell' = true := by
  intro u hu
  simp only [Pl.cells5, h, List.mem_cons, List.not_mem_nil, or_false] at hu
  rcases hu with rfl | rfl | rfl | rfl | rfl <;> rfl

/-- What lies in the boxes of Rows, and in its rows. -/
structure InRows (o most : Nat) (la lb : List Pl) (W : World) (va vb : Value) : Prop where
  m : Boxed W o 3 (.int .i64 (most : Int))
  r1 : Boxed W (o + 1) 54 (.slice none 0 0)
  r2 : Boxed W (o + 2) 59 (.slice none 0 0)
  r3 : Boxed W (o + 3) 4 (.bool false)
  a : Boxed W (o + 4) 54 va
  b : Boxed W (o + 5) 59 vb
  ra : W.ownsRow (o + 6) 3 1 va la.length (la.map fun p => .int .i64 p.i)
  rb : W.ownsRow (o + 6) 57 5 vb lb.length (lb.flatMap Pl.cells5)

theorem row_keep {o : Nat} {W W' : World} (hk : ∀ (k : Nat) (c : Array Value) (t : TypeId) (f : Nat × Nat), W.heap[k]? = some (.cells c t f) → W'.heap[k]? = W.heap[k]?) {e : TypeId} {s : Nat} {v : Value} {n : Nat} {xs : List Value} (h : W.ownsRow o e s v n xs) : W'.ownsRow o e s v n xs :=
  ownsRow_of_heap h fun k e' => by
    rcases h.2 with ⟨rfl, _⟩ | ⟨g, cap, cur, rfl, _, hg, _⟩
    · cases e'
    · obtain rfl : g = k := by simpa [Value.ownBlock] using e'
      exact hk _ _ _ _ hg
theorem InRows.keep {o most : Nat} {la lb : List Pl} {W W' : World} {va vb : Value} (h : InRows o most la lb W va vb) (hk : ∀ (k : Nat) (c : Array Value) (t : TypeId) (f : Nat × Nat), W.heap[k]? = some (.cells c t f) → W'.heap[k]? = W.heap[k]?) : InRows o most la lb W' va vb :=
  ⟨boxed_of_heap h.m (hk _ _ _ _ h.m), boxed_of_heap h.r1 (hk _ _ _ _ h.r1), boxed_of_heap h.r2 (hk _ _ _ _ h.r2), boxed_of_heap h.r3 (hk _ _ _ _ h.r3), boxed_of_heap h.a (hk _ _ _ _ h.a), boxed_of_heap h.b (hk _ _ _ _ h.b), row_keep hk h.ra, row_keep hk h.rb⟩
theorem InRows.below {o most : Nat} {la lb : List Pl} {W W' : World} {va vb : Value} (h : InRows o most la lb W va vb) (hb : Below W.heap.size W W') : InRows o most la lb W' va vb :=
  h.keep fun k _ _ _ e => hb.block k (Array.getElem?_eq_some_iff.1 e).1

theorem InRows.appA {o most : Nat} {la lb : List Pl} {W w1 : World} {va vb v1 : Value} {p : Pl} {ob : Obj} (h : InRows o most la lb W va vb) (hown1 : w1.ownsRow (o + 6) 3 1 v1 (la.length + 1) ((la.map fun p => .int .i64 p.i) ++ [.int .i64 p.i])) (hgrow : (W.alloc ob).grownBy w1 va.ownBlock) :
    Boxed w1 (o + 4) 54 va ∧ InRows o most (la ++ [p]) lb (w1.setCell ⟨o + 4, 0, none⟩ v1) v1 vb ∧ KeepsOthers W (w1.setCell ⟨o + 4, 0, none⟩ v1) ∧ (∀ k, k < W.heap.size → k ≠ o + 4 → va.ownBlock ≠ some k → (w1.setCell ⟨o + 4, 0, none⟩ v1).heap[k]? = W.heap[k]?) ∧
      (∀ b w, b ≤ o + 4 → Below b w W → Below b w (w1.setCell ⟨o + 4, 0, none⟩ v1)) := by
  have hlt := h.b.lt
  obtain ⟨x1, x2, x3, x4, x5, x6⟩ := box_app h.a h.ra (by omega) (by omega) hown1 hgrow
  have bk : ∀ k, k < o + 6 → k ≠ o + 4 → (w1.setCell ⟨o + 4, 0, none⟩ v1).heap[k]? = W.heap[k]? := fun k hk hne => x5 k (by omega) hne (fun e => by have := (h.ra.lt k e).1; omega)
  refine ⟨x1, ⟨boxed_of_heap h.m (bk _ (by omega) (by omega)), boxed_of_heap h.r1 (bk _ (by omega) (by omega)), boxed_of_heap h.r2 (bk _ (by omega) (by omega)), boxed_of_heap h.r3 (bk _ (by omega) (by omega)), x2, boxed_of_heap h.b (bk _ (by omega) (by omega)), ?_, ?_⟩, x4, x5, x6⟩
  · rw [List.length_append, List.map_append]
    exact x3
  · exact ownsRow_of_heap h.rb fun k e => x5 k (h.rb.lt k e).2 (by have := (h.rb.lt k e).1; omega) (fun e' => rows_apart (by decide) h.rb h.ra k e e')
theorem InRows.appB {o most : Nat} {la lb : List Pl} {W w1 : World} {va vb v1 : Value} {p : Pl} {ob : Obj} (h : InRows o most la lb W va vb) (hown1 : w1.ownsRow (o + 6) 57 5 v1 (lb.length + 1) (lb.flatMap Pl.cells5 ++ p.cells5)) (hgrow : (W.alloc ob).grownBy w1 vb.ownBlock) :
    Boxed w1 (o + 5) 59 vb ∧ InRows o most la (lb ++ [p]) (w1.setCell ⟨o + 5, 0, none⟩ v1) va v1 ∧ KeepsOthers W (w1.setCell ⟨o + 5, 0, none⟩ v1) ∧ (∀ k, k < W.heap.size → k ≠ o + 5 → vb.ownBlock ≠ some k → (w1.setCell ⟨o + 5, 0, none⟩ v1).heap[k]? = W.heap[k]?) ∧
      (∀ b w, b ≤ o + 5 → Below b w W → Below b w (w1.setCell ⟨o + 5, 0, none⟩ v1)) := by
  have hlt := h.b.lt
  obtain ⟨x1, x2, x3, x4, x5, x6⟩ := box_app h.b h.rb (by omega) (by omega) hown1 hgrow
  have bk : ∀ k, k < o + 6 → k ≠ o + 5 → (w1.setCell ⟨o + 5, 0, none⟩ v1).heap[k]? = W.heap[k]? := fun k hk hne => x5 k (by omega) hne (fun e => by have := (h.rb.lt k e).1; omega)
  refine ⟨x1, ⟨boxed_of_heap h.m (bk _ (by omega) (by omega)), boxed_of_heap h.r1 (bk _ (by omega) (by omega)), boxed_of_heap h.r2 (bk _ (by omega) (by omega)), boxed_of_heap h.r3 (bk _ (by omega) (by omega)), boxed_of_heap h.a (bk _ (by omega) (by omega)), x2, ?_, ?_⟩, x4, x5, x6⟩
  · exact ownsRow_of_heap h.ra fun k e => x5 k (h.ra.lt k e).2 (by have := (h.ra.lt k e).1; omega) (fun e' => rows_apart (by decide) h.ra h.rb k e e')
  · rw [List.length_append, List.flatMap_append]
    simpa using x3

end Go.Proofs.YtncmocmmkbmmjaaGreatDoor

/- The laws' known(): a record there and back: it answers true in whatever world that has the library's table of powers of ten. Own work; no statement. -/
set_option linter.unusedSimpArgs false
set_option linter.unusedVariables false
namespace Go.Proofs.YtncmocmmkbmmjaaGreatDoor
open Go.RowKit Go.Shelf Go.Sort

def knownR : RecD := ⟨1, 3, [2, 2], ⟨#[107, 101, 121]⟩, ⟨#[97, 61, 98]⟩⟩
def knownS : RecD := ⟨0, 9, [], ⟨#[107]⟩, ⟨#[]⟩⟩
set_option maxRecDepth 100000 in
theorem kP1 : parseR [49, 58, 51, 32, 91, 50, 32, 50, 93, 32, 107, 101, 121, 61, 97, 61, 98] = (knownR, 0) := by kernel_rfl
set_option maxRecDepth 100000 in
theorem kP2 : parseR [49, 58, 50, 32, 91, 48, 32, 50, 93, 32, 107, 61, 118] = (zeroR, 13) := by kernel_rfl
set_option maxRecDepth 100000 in
theorem kP3 : parseR [49, 58, 51, 32, 91, 50, 93, 32, 75, 101, 121, 61, 118] = (zeroR, 3) := by kernel_rfl
set_option maxRecDepth 100000 in
theorem kP4 : parseR [49, 58, 51, 32, 91, 50, 93, 32, 107, 32, 118] = (zeroR, 2) := by kernel_rfl
theorem kText : textR knownR = ⟨#[49, 58, 51, 32, 91, 50, 32, 50, 93, 32, 107, 101, 121, 61, 97, 61, 98]⟩ := by
  have h1 : writtenL [2, 2] = 2 := by decide
  have h2 : textL [2, 2] = [91, 50, 32, 50, 93] := by simp [textL, h1, numsTo, itoa_digit]
  have h3 : Lib.itoa 1 = [49] := itoa_digit 1 (by omega) (by omega)
  have h4 : Lib.itoa 3 = [51] := itoa_digit 3 (by omega) (by omega)
  unfold textR knownR
  dsimp only
  rw [h2, h3, h4]
  rfl
theorem kBefore1 : beforeR knownS knownR = true := by decide
theorem kBefore2 : beforeR knownR knownR = false := by decide
theorem kSameR1 : sameR knownR knownR = true := by decide +kernel
theorem kSameR2 : sameR knownR knownS = false := by decide +kernel
theorem kCheckR1 : checkR knownR 1 = 1 := by decide +kernel
theorem kCheckR2 : checkR knownR 2 = 0 := by decide +kernel
theorem kPlaced : placedTo [knownS, knownR, knownS] 0 3 = [(0, knownS), (2, knownS)] := by rfl

end Go.Proofs.YtncmocmmkbmmjaaGreatDoor
