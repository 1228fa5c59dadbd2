/- The reference's ParseRec, where all places are found. Own work; no statement. -/
import Derived.Test.YthpahkcncjieiaaDoorRefH
import Derived.Sort.AtCall
set_option linter.unusedSimpArgs false
set_option linter.unusedVariables false
namespace Go.Proofs.YthpahkcncjieiaaDoor
open Go.RowKit

theorem extract_data (s : ByteArray) (i j : Nat) : (s.extract i j).data.toList = (s.data.toList.drop i).take (j - i) := by
  have := extract_list s.data.toList i j
  rw [show (⟨s.data.toList.toArray⟩ : ByteArray) = s from rfl] at this
  rw [this]
theorem extract_le (s : ByteArray) (i j : Nat) : (s.extract i j).size ≤ s.size := by
  rw [ByteArray.size_extract]
  omega

set_option maxRecDepth 100000 in
set_option maxHeartbeats 2000000 in
theorem refParseRec_all (s : ByteArray) (w : World) (hs : s.size ≤ 1048576) {a b c d : Nat} (ha : findL s.data.toList 58 0 = a) (hb : findL s.data.toList 32 a = b) (hb9 : s.data.toList[b + 1]? = some 91) (hc : findL s.data.toList 93 b = c) (hc9 : s.data.toList[c + 1]? = some 32) (hd : findL s.data.toList 61 c = d) :
    Calls Tryd.prog 11 #[.string s] w fun e w' => ∃ v, e = .returned (.tuple #[v, .int .i64 (parseR s.data.toList).2]) ∧ IsRec w' v (parseR s.data.toList).1 ∧ Below w.heap.size w w' := by
  obtain ⟨hsp, hcd, hdl⟩ := at_all ha hb hc hc9 hd
  have hal := (cut_a ha).1
  obtain ⟨hab, hbl, -⟩ := cut_b ha hb
  obtain ⟨hbc, hcl, -⟩ := cut_c hb hc
  rw [← Lib.size_eq] at hal hbl hcl hdl
  have hP : parseR s.data.toList = parseP true (s.extract 0 a).data.toList (s.extract (a + 1) b).data.toList (s.extract (b + 1) (c + 1)).data.toList (s.extract (c + 2) d).data.toList (s.extract (d + 1) s.size).data.toList := by
    unfold parseR
    rw [hsp]
    dsimp only
    rw [extract_data, extract_data, extract_data, extract_data, extract_data, List.drop_zero, Nat.sub_zero, show c + 1 - (b + 1) = c - b by omega]
    congr 1
    rw [List.take_of_length_le]
    rw [List.length_drop, ← Lib.size_eq]
    omega
  rw [hP]
  clear hP hsp
  obtain ⟨P, hP⟩ : ∃ P, parseP true (s.extract 0 a).data.toList (s.extract (a + 1) b).data.toList (s.extract (b + 1) (c + 1)).data.toList (s.extract (c + 2) d).data.toList (s.extract (d + 1) s.size).data.toList = P := ⟨_, rfl⟩
  rw [hP]
  unfold parseP at hP
  have hs' : s.size ≤ 1099511627776 := by omega
  have f1 : ∀ w, Calls Tryd.prog 25 #[.string s, .int .u8 58, .int .i64 0] w fun e w' => e = .returned (.int .i64 (findL s.data.toList 58 0)) ∧ w' = w := fun w => refFind_calls s 58 0 w hs' (by omega)
  have f2 : ∀ w, Calls Tryd.prog 25 #[.string s, .int .u8 32, .int .i64 (a : Int)] w fun e w' => e = .returned (.int .i64 (findL s.data.toList 32 a)) ∧ w' = w := fun w => refFind_calls s 32 a w hs' (by omega)
  have f3 : ∀ w, Calls Tryd.prog 25 #[.string s, .int .u8 93, .int .i64 (b : Int)] w fun e w' => e = .returned (.int .i64 (findL s.data.toList 93 b)) ∧ w' = w := fun w => refFind_calls s 93 b w hs' (by omega)
  have f4 : ∀ w, Calls Tryd.prog 25 #[.string s, .int .u8 61, .int .i64 (c : Int)] w fun e w' => e = .returned (.int .i64 (findL s.data.toList 61 c)) ∧ w' = w := fun w => refFind_calls s 61 c w hs' (by omega)
  rw [ha] at f1
  rw [hb] at f2
  rw [hc] at f3
  rw [hd] at f4
  clear ha hb hc hd
  replace f1 := hide f1
  replace f2 := hide f2
  replace f3 := hide f3
  replace f4 := hide f4
  have hbn : b + 1 < s.size := by omega
  have hcn : c + 1 < s.size := by omega
  have hb9' : (((s[b + 1].toNat : Nat) : Int) != 91) = false := by
    have hbn2 : b + 1 < s.data.toList.length := by rw [← Lib.size_eq]; exact hbn
    rw [List.getElem?_eq_getElem hbn2, Option.some.injEq] at hb9
    rw [show s[b + 1] = 91 from hb9]
    rfl
  have hc9' : (((s[c + 1].toNat : Nat) : Int) != 32) = false := by
    have hcn2 : c + 1 < s.data.toList.length := by rw [← Lib.size_eq]; exact hcn
    rw [List.getElem?_eq_getElem hcn2, Option.some.injEq] at hc9
    rw [show s[c + 1] = 32 from hc9]
    rfl
  clear hb9 hc9
  have u1 := hide (fun w => refNumberAny_calls (s.extract 0 a) w (Nat.le_trans (extract_le _ _ _) hs'))
  have u2 := hide (fun w => refNumberAny_calls (s.extract (a + 1) b) w (Nat.le_trans (extract_le _ _ _) hs'))
  have u3 := hide (fun w => refParseO_calls (s.extract (b + 1) (c + 1)) w (Nat.le_trans (extract_le _ _ _) hs))
  generalize numL (s.extract 0 a).data.toList = n1 at *
  generalize numL (s.extract (a + 1) b).data.toList = n2 at *
  have hdl3 := parseL_len (s.extract (b + 1) (c + 1)).data.toList
  generalize parseL (s.extract (b + 1) (c + 1)).data.toList = n3 at *
  obtain ⟨site, b1⟩ := n1
  obtain ⟨seq, b2⟩ := n2
  obtain ⟨dep, e3⟩ := n3
  dsimp only at *
  have z0 : (w.alloc (.cells #[.int .i64 0, .int .i64 0, .slice none 0 0, .string ⟨#[]⟩, .string ⟨#[]⟩] 33)).heap[w.heap.size]? = some (.cells #[.int .i64 0, .int .i64 0, .slice none 0 0, .string ⟨#[]⟩, .string ⟨#[]⟩] 33 (0, 0)) := World.alloc_heap_new w _
  have hB := box_below w (.cells #[.int .i64 0, .int .i64 0, .slice none 0 0, .string ⟨#[]⟩, .string ⟨#[]⟩] 33)
  generalize hW0 : w.alloc (.cells #[.int .i64 0, .int .i64 0, .slice none 0 0, .string ⟨#[]⟩, .string ⟨#[]⟩] 33) = W0 at *
  have HW := hide hW0
  have d0 := cell_at z0 0
  have d1 := cell_at z0 1
  have d2 := cell_at z0 2
  have d3 := cell_at z0 3
  have d4 := cell_at z0 4
  simp only [List.getElem?_toArray, List.getElem?_cons_zero, List.getElem?_cons_succ] at d0 d1 d2 d3 d4
  have g0 := frozen_at z0 0
  have g1 := frozen_at z0 1
  have g2 := frozen_at z0 2
  have g3 := frozen_at z0 3
  have g4 := frozen_at z0 4
  have zlt := ltB z0
  have Z0 := hide z0
  clear z0 hW0
  cases b1 with
  | false =>
    rw [if_neg (by simp)] at hP
    subst hP
    go_enter Tryd.func11, Tryd.ntmps11
    go_wp2_with (first | (go_at_call_of 25 (Value.int .u8 58); rw [HW.out]; refine (f1.out _).mono ?_; rintro e w' ⟨rfl, rfl⟩) | (go_at_call_of 25 (Value.int .u8 32); refine (f2.out _).mono ?_; rintro e w' ⟨rfl, rfl⟩) | (go_at_call_of 25 (Value.int .u8 93); refine (f3.out _).mono ?_; rintro e w' ⟨rfl, rfl⟩) | (go_at_call_of 25 (Value.int .u8 61); refine (f4.out _).mono ?_; rintro e w' ⟨rfl, rfl⟩) | (go_at_call_has 26 (Value.string (s.extract 0 a)); refine (u1.out _).mono ?_; rintro e w' ⟨rfl, rfl⟩) | (go_at_call_has 26 (Value.string (s.extract (a + 1) b)); refine (u2.out _).mono ?_; rintro e w' ⟨rfl, rfl⟩))
    obtain ⟨W', hW', k0, k1, k2, k3, k4, hB'⟩ := parse_zero Z0.out hB (Nat.le_refl _)
    unfold put5 at hW'
    rw [hW']
    exact bodyPost_ret (v := .tuple #[.agg #[.int .i64 0, .int .i64 0, .slice none 0 0, .string ⟨#[]⟩, .string ⟨#[]⟩], .int .i64 2]) (by simp [results, Tryd.f11, go_sem, k0, k1, k2, k3, k4]) rfl ⟨_, rfl, zero_rec _, hB'⟩
  | true =>
    cases b2 with
    | false =>
      rw [if_neg (by simp)] at hP
      subst hP
      go_enter Tryd.func11, Tryd.ntmps11
      go_wp2_with (first | (go_at_call_of 25 (Value.int .u8 58); rw [HW.out]; refine (f1.out _).mono ?_; rintro e w' ⟨rfl, rfl⟩) | (go_at_call_of 25 (Value.int .u8 32); refine (f2.out _).mono ?_; rintro e w' ⟨rfl, rfl⟩) | (go_at_call_of 25 (Value.int .u8 93); refine (f3.out _).mono ?_; rintro e w' ⟨rfl, rfl⟩) | (go_at_call_of 25 (Value.int .u8 61); refine (f4.out _).mono ?_; rintro e w' ⟨rfl, rfl⟩) | (go_at_call_has 26 (Value.string (s.extract 0 a)); refine (u1.out _).mono ?_; rintro e w' ⟨rfl, rfl⟩) | (go_at_call_has 26 (Value.string (s.extract (a + 1) b)); refine (u2.out _).mono ?_; rintro e w' ⟨rfl, rfl⟩))
      obtain ⟨W', hW', k0, k1, k2, k3, k4, hB'⟩ := parse_zero Z0.out hB (Nat.le_refl _)
      unfold put5 at hW'
      rw [hW']
      exact bodyPost_ret (v := .tuple #[.agg #[.int .i64 0, .int .i64 0, .slice none 0 0, .string ⟨#[]⟩, .string ⟨#[]⟩], .int .i64 2]) (by simp [results, Tryd.f11, go_sem, k0, k1, k2, k3, k4]) rfl ⟨_, rfl, zero_rec _, hB'⟩
    | true =>
      rw [if_pos ⟨rfl, rfl, rfl⟩] at hP
      replace hP := hide hP
      go_enter Tryd.func11, Tryd.ntmps11
      go_wp2_with (first | (go_at_call_of 25 (Value.int .u8 58); rw [HW.out]; refine (f1.out _).mono ?_; rintro e w' ⟨rfl, rfl⟩) | (go_at_call_of 25 (Value.int .u8 32); refine (f2.out _).mono ?_; rintro e w' ⟨rfl, rfl⟩) | (go_at_call_of 25 (Value.int .u8 93); refine (f3.out _).mono ?_; rintro e w' ⟨rfl, rfl⟩) | (go_at_call_of 25 (Value.int .u8 61); refine (f4.out _).mono ?_; rintro e w' ⟨rfl, rfl⟩) | (go_at_call_has 26 (Value.string (s.extract 0 a)); refine (u1.out _).mono ?_; rintro e w' ⟨rfl, rfl⟩) | (go_at_call_has 26 (Value.string (s.extract (a + 1) b)); refine (u2.out _).mono ?_; rintro e w' ⟨rfl, rfl⟩))
      refine (u3.out _).mono ?_
      rintro e w3 ⟨v, rfl, hn, hB3⟩
      obtain ⟨p, cap, rfl⟩ := ownsRow_slice hn
      have hnew : ∀ k, (Value.slice p dep.length cap).ownBlock = some k → w.heap.size < k ∧ k < w3.heap.size := fun k hk => ⟨by have := (hn.lt k hk).1; omega, (hn.lt k hk).2⟩
      have hw3 := hB3.size
      have z0 := keepB Z0.out hB3
      replace hB := hB.trans (hB3.mono hB.size)
      clear Z0 d0 d1 d2 d3 d4 g0 g1 g2 g3 g4 u1 u2 u3 f1 f2 f3 f4 HW zlt hB3
      have d0 := cell_at z0 0
      have d1 := cell_at z0 1
      have d2 := cell_at z0 2
      have d3 := cell_at z0 3
      have d4 := cell_at z0 4
      simp only [List.getElem?_toArray, List.getElem?_cons_zero, List.getElem?_cons_succ] at d0 d1 d2 d3 d4
      have g0 := frozen_at z0 0
      have g1 := frozen_at z0 1
      have g2 := frozen_at z0 2
      have g3 := frozen_at z0 3
      have g4 := frozen_at z0 4
      have zlt := ltB z0
      have Z0 := hide z0
      have Hn := hide hn
      clear z0 hn
      by_cases he3 : e3 = 0
      case neg =>
        have e1 := hP.out
        rw [if_neg he3] at e1
        subst e1
        clear hP
        have he3' : (e3 != 0) = true := by simp [he3]
        clear he3
        go_wp2
        obtain ⟨W', hW', k0, k1, k2, k3, k4, hB'⟩ := parse_zero Z0.out hB (Nat.le_refl _)
        unfold put5 at hW'
        rw [hW']
        exact bodyPost_ret (v := .tuple #[.agg #[.int .i64 0, .int .i64 0, .slice none 0 0, .string ⟨#[]⟩, .string ⟨#[]⟩], .int .i64 e3]) (by simp [results, Tryd.f11, go_sem, k0, k1, k2, k3, k4]) rfl ⟨_, rfl, zero_rec _, hB'⟩
      subst he3
      have e1 := hP.out
      clear hP
      rw [if_pos rfl] at e1
      rw [show (⟨(s.extract (c + 2) d).data.toList.toArray⟩ : ByteArray) = s.extract (c + 2) d from rfl, show (⟨(s.extract (d + 1) s.size).data.toList.toArray⟩ : ByteArray) = s.extract (d + 1) s.size from rfl] at e1
      obtain ⟨q, hq⟩ : ∃ q, checkR ⟨site, seq, dep, s.extract (c + 2) d, s.extract (d + 1) s.size⟩ 8 = q := ⟨_, rfl⟩
      rw [hq] at e1
      have Hq := hide hq
      replace e1 := hide e1
      clear hq
      have hi1 : ((c : Int) + 2 ≤ (d : Int)) := by omega
      have hi2 : ((d : Int) ≤ (s.size : Int)) := by omega
      have hi3 : ((d : Int) + 1 ≤ (s.size : Int)) := by omega
      go_wp2_with fail
      go_region
      have x0 : (w3.alloc (.cells #[.int .i64 site, .int .i64 seq, .slice p dep.length cap, .string (s.extract (c + 2) d), .string (s.extract (d + 1) s.size)] 33)).drew.heap[w3.heap.size]? = some (.cells #[.int .i64 site, .int .i64 seq, .slice p dep.length cap, .string (s.extract (c + 2) d), .string (s.extract (d + 1) s.size)] 33 (0, 0)) := World.alloc_heap_new w3 _
      have z0 := keepB Z0.out (box_below w3 (.cells #[.int .i64 site, .int .i64 seq, .slice p dep.length cap, .string (s.extract (c + 2) d), .string (s.extract (d + 1) s.size)] 33)).drew
      have hn := own_below Hn.out (box_below w3 (.cells #[.int .i64 site, .int .i64 seq, .slice p dep.length cap, .string (s.extract (c + 2) d), .string (s.extract (d + 1) s.size)] 33)).drew
      have hB2 := (hB.alloc hB.size (.cells #[.int .i64 site, .int .i64 seq, .slice p dep.length cap, .string (s.extract (c + 2) d), .string (s.extract (d + 1) s.size)] 33)).drew
      clear Z0 Hn hB d0 d1 d2 d3 d4 g0 g1 g2 g3 g4
      generalize (w3.alloc (.cells #[.int .i64 site, .int .i64 seq, .slice p dep.length cap, .string (s.extract (c + 2) d), .string (s.extract (d + 1) s.size)] 33)).drew = W4 at *
      have hck := refCheckRec_calls _ ⟨site, seq, dep, s.extract (c + 2) d, s.extract (d + 1) s.size⟩ 8 W4 (show IsRec W4 (.agg #[.int .i64 site, .int .i64 seq, .slice p dep.length cap, .string (s.extract (c + 2) d), .string (s.extract (d + 1) s.size)]) ⟨site, seq, dep, s.extract (c + 2) d, s.extract (d + 1) s.size⟩ from ⟨p, cap, rfl, IsNums.of_row hn⟩) (by dsimp only; omega) (Nat.le_trans (extract_le _ _ _) hs') (Nat.le_trans (extract_le _ _ _) hs')
      rw [Hq.out] at hck
      replace hck := hide hck
      have m0 := cell_at x0 0
      have m1 := cell_at x0 1
      have m2 := cell_at x0 2
      have m3 := cell_at x0 3
      have m4 := cell_at x0 4
      simp only [List.getElem?_toArray, List.getElem?_cons_zero, List.getElem?_cons_succ] at m0 m1 m2 m3 m4
      have r0 := frozen_at x0 0
      have r1 := frozen_at x0 1
      have r2 := frozen_at x0 2
      have r3 := frozen_at x0 3
      have r4 := frozen_at x0 4
      have xlt := ltB x0
      have X0 := hide x0
      have Z0 := hide z0
      have Hn := hide hn
      clear x0 z0 hn
      go_wp2_with fail
      refine hck.out.mono ?_
      rintro e w5 ⟨rfl, hB5⟩
      have x0 := keepB X0.out hB5
      have z0 := keepB Z0.out hB5
      have hn := own_below Hn.out hB5
      have hB := hB2.trans (hB5.mono hB2.size)
      clear X0 Z0 Hn hck hB2 hB5 m0 m1 m2 m3 m4 r0 r1 r2 r3 r4 xlt zlt
      have d0 := cell_at z0 0
      have d1 := cell_at z0 1
      have d2 := cell_at z0 2
      have d3 := cell_at z0 3
      have d4 := cell_at z0 4
      simp only [List.getElem?_toArray, List.getElem?_cons_zero, List.getElem?_cons_succ] at d0 d1 d2 d3 d4
      have g0 := frozen_at z0 0
      have g1 := frozen_at z0 1
      have g2 := frozen_at z0 2
      have g3 := frozen_at z0 3
      have g4 := frozen_at z0 4
      have zlt := ltB z0
      have m0 := cell_at x0 0
      have m1 := cell_at x0 1
      have m2 := cell_at x0 2
      have m3 := cell_at x0 3
      have m4 := cell_at x0 4
      simp only [List.getElem?_toArray, List.getElem?_cons_zero, List.getElem?_cons_succ] at m0 m1 m2 m3 m4
      have r0 := frozen_at x0 0
      have r1 := frozen_at x0 1
      have r2 := frozen_at x0 2
      have r3 := frozen_at x0 3
      have r4 := frozen_at x0 4
      have xlt := ltB x0
      have X0 := hide x0
      have Z0 := hide z0
      have Hn := hide hn
      clear x0 z0 hn
      by_cases hq0 : q = 0
      case neg =>
        have e2 := e1.out
        rw [if_neg hq0] at e2
        subst e2
        clear e1
        have hq' : (q != 0) = true := by simp [hq0]
        clear hq0
        go_wp2
        obtain ⟨W', hW', k0, k1, k2, k3, k4, hB'⟩ := parse_zero Z0.out hB (Nat.le_refl _)
        unfold put5 at hW'
        rw [hW']
        exact bodyPost_ret (v := .tuple #[.agg #[.int .i64 0, .int .i64 0, .slice none 0 0, .string ⟨#[]⟩, .string ⟨#[]⟩], .int .i64 q]) (by simp [results, Tryd.f11, go_sem, k0, k1, k2, k3, k4]) rfl ⟨_, rfl, zero_rec _, hB'⟩
      have e2 := e1.out
      rw [if_pos hq0] at e2
      subst hq0
      subst e2
      clear e1 Hq
      go_wp2_with fail
      have y1 := put5_heap Z0.out (.int .i64 site) (.int .i64 seq) (.slice p dep.length cap) (.string (s.extract (c + 2) d)) (.string (s.extract (d + 1) s.size))
      have hB3 := put5_below hB (Nat.le_refl _) (.int .i64 site) (.int .i64 seq) (.slice p dep.length cap) (.string (s.extract (c + 2) d)) (.string (s.extract (d + 1) s.size))
      have ho1 : ∀ k, k ≠ w.heap.size → (put5 w5 w.heap.size (.int .i64 site) (.int .i64 seq) (.slice p dep.length cap) (.string (s.extract (c + 2) d)) (.string (s.extract (d + 1) s.size))).heap[k]? = w5.heap[k]? := fun k h2 => put5_other k h2 _ _ _ _ _
      obtain ⟨W9, hW9⟩ : ∃ W9, put5 w5 w.heap.size (.int .i64 site) (.int .i64 seq) (.slice p dep.length cap) (.string (s.extract (c + 2) d)) (.string (s.extract (d + 1) s.size)) = W9 := ⟨_, rfl⟩
      rw [hW9] at y1 hB3 ho1
      unfold put5 at hW9
      rw [hW9]
      have k0 := cell_at y1 0
      have k1 := cell_at y1 1
      have k2 := cell_at y1 2
      have k3 := cell_at y1 3
      have k4 := cell_at y1 4
      simp only [List.getElem?_toArray, List.getElem?_cons_zero, List.getElem?_cons_succ] at k0 k1 k2 k3 k4
      refine bodyPost_ret (v := .tuple #[.agg #[.int .i64 site, .int .i64 seq, .slice p dep.length cap, .string (s.extract (c + 2) d), .string (s.extract (d + 1) s.size)], .int .i64 0]) (by simp [results, Tryd.f11, go_sem, k0, k1, k2, k3, k4]) rfl ⟨_, rfl, ⟨p, cap, rfl, ?_⟩, hB3⟩
      exact IsNums.of_row (ownsRow_of_heap Hn.out fun k hk => by have h1 := hnew k hk; exact ho1 k (by omega))

theorem refParseRec_calls (s : ByteArray) (w : World) (hs : s.size ≤ 1048576) :
    Calls Tryd.prog 11 #[.string s] w fun e w' => ∃ v, e = .returned (.tuple #[v, .int .i64 (parseR s.data.toList).2]) ∧ IsRec w' v (parseR s.data.toList).1 ∧ Below w.heap.size w w' := by
  rcases find_range s.data.toList 58 0 with ha | ⟨a, ha⟩
  · exact refParseRec_none s w hs (none_parse (at_a ha)) (.inl ha)
  rcases find_range s.data.toList 32 a with hb | ⟨b, hb⟩
  · exact refParseRec_none s w hs (none_parse (at_b ha hb)) (.inr ⟨a, ha, .inl hb⟩)
  by_cases hb9 : s.data.toList[b + 1]? = some 91
  case neg => exact refParseRec_none s w hs (no_bracket ha hb hb9) (.inr ⟨a, ha, .inr ⟨b, hb, .inl hb9⟩⟩)
  rcases find_range s.data.toList 93 b with hc | ⟨c, hc⟩
  · exact refParseRec_none s w hs (none_parse (at_c ha hb hc)) (.inr ⟨a, ha, .inr ⟨b, hb, .inr ⟨hb9, .inl hc⟩⟩⟩)
  by_cases hc9 : s.data.toList[c + 1]? = some 32
  case neg => exact refParseRec_none s w hs (none_parse (at_sp ha hb hc hc9)) (.inr ⟨a, ha, .inr ⟨b, hb, .inr ⟨hb9, .inr ⟨c, hc, .inl hc9⟩⟩⟩⟩)
  rcases find_range s.data.toList 61 c with hd | ⟨d, hd⟩
  · exact refParseRec_none s w hs (none_parse (at_d ha hb hc hc9 hd)) (.inr ⟨a, ha, .inr ⟨b, hb, .inr ⟨hb9, .inr ⟨c, hc, .inr ⟨hc9, hd⟩⟩⟩⟩⟩)
  exact refParseRec_all s w hs ha hb hb9 hc hc9 hd

end Go.Proofs.YthpahkcncjieiaaDoor
