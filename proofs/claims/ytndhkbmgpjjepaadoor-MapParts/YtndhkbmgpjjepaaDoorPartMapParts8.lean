/- Own work: the parts M19, M20, WMapParts, FrameP of the proof, laid together. -/
import Derived.Test.YtndhkbmgpjjepaaDoorPartMapParts7
import Derived.Test.YtndhkbmgpjjepaaDoorPartMapParts1
import Derived.ProofKit
import Derived.OpenShut
import Derived.ShutString
import Derived.ChangeOld
import Derived.Deep.DeepHandedRow
/- The reference's CheckMap. Own work; no statement. -/
set_option linter.unusedSimpArgs false
set_option linter.unusedVariables false
namespace Go.Proofs.YtndhkbmgpjjepaaDoor
open Go.RowKit Go.Shelf

theorem okFrom_good : ∀ (n k : Nat) (m : MapD), 0 < k → n = m.length - k → k ≤ m.length → okFrom (m.getD (k - 1) (0, 0)).1 (m.drop k) = true → ∀ i, k ≤ i → i < m.length → GoodAt m i
  | 0, k, m, _, h, _, _, i, h1, h2 => by omega
  | n + 1, k, m, h0, h, hk, hok, i, h1, h2 => by
    have hlt : k < m.length := by omega
    rw [okFrom_step hlt] at hok
    simp only [Bool.and_eq_true, decide_eq_true_eq] at hok
    by_cases e : i = k
    · subst e
      rw [← getD_get m i hlt] at hok
      exact ⟨fun h => by omega, fun _ => hok.1.1.1, hok.1.1.2, hok.1.2⟩
    · refine okFrom_good n (k + 1) m (by omega) (by omega) (by omega) ?_ i (by omega) h2
      rw [Nat.add_sub_cancel, getD_get m k hlt]
      exact hok.2
theorem okMap_good {m : MapD} (h : okMap m = true) (k : Nat) (hk : k < m.length) : GoodAt m k := by
  have hp := okMap_pos h
  have hf := okMap_from h
  have hz := okMap_zero h
  have hst := okFrom_step hp 0
  rw [List.drop_zero, hf] at hst
  have hst := hst.symm
  simp only [Bool.and_eq_true, decide_eq_true_eq] at hst
  by_cases e : k = 0
  · subst e
    refine ⟨fun _ => by rw [getD_get m 0 hp]; exact hz, fun h => by omega, ?_, ?_⟩
    · rw [getD_get m 0 hp]; exact hst.1.1.2
    · rw [getD_get m 0 hp]; exact hst.1.2
  · refine okFrom_good (m.length - 1) 1 m (by omega) rfl (by omega) ?_ k (by omega) hk
    rw [Nat.sub_self, getD_get m 0 hp]
    exact hst.2
theorem good_okFrom : ∀ (n k : Nat) (m : MapD), 0 < k → n = m.length - k → k ≤ m.length → (∀ i, k ≤ i → i < m.length → GoodAt m i) → okFrom (m.getD (k - 1) (0, 0)).1 (m.drop k) = true
  | 0, k, m, _, h, hk, _ => by rw [List.drop_of_length_le (by omega)]; rfl
  | n + 1, k, m, h0, h, hk, hg => by
    have hlt : k < m.length := by omega
    have g := hg k (Nat.le_refl _) hlt
    have ih := good_okFrom n (k + 1) m (by omega) (by omega) (by omega) (fun i h1 h2 => hg i (by omega) h2)
    rw [Nat.add_sub_cancel, getD_get m k hlt] at ih
    have g2 := g.2.1 h0
    have g3 := g.2.2
    rw [okFrom_step hlt, ih]
    rw [getD_get m k hlt] at g2 g3
    simp only [Bool.and_eq_true, decide_eq_true_eq, and_true]
    exact ⟨⟨g2, g3.1⟩, g3.2⟩
theorem good_okMap {m : MapD} (h0 : 0 < m.length) (hg : ∀ k, k < m.length → GoodAt m k) : okMap m = true := by
  have g := hg 0 h0
  have ih := good_okFrom (m.length - 1) 1 m (by omega) rfl (by omega) (fun i _ h2 => hg i h2)
  rw [Nat.sub_self] at ih
  have g1 := g.1 rfl
  have g3 := g.2.2
  cases m with
  | nil => simp at h0
  | cons x r =>
    simp only [List.getD_cons_zero, List.drop_succ_cons, List.drop_zero] at ih g1 g3
    simp only [okMap, okFrom_cons, g1, decide_true, Bool.true_and]
    rw [g1] at ih
    simp [ih, g3.1, g3.2]
theorem first_bad (m : MapD) : ∀ n, (∃ k, k < n ∧ ¬ GoodAt m k) → ∃ k, k < n ∧ ¬ GoodAt m k ∧ ∀ i, i < k → GoodAt m i
  | 0, ⟨k, h, _⟩ => by omega
  | n + 1, ⟨k, h, hb⟩ => by
    by_cases he : ∃ k, k < n ∧ ¬ GoodAt m k
    · obtain ⟨k', h1, h2, h3⟩ := first_bad m n he
      exact ⟨k', by omega, h2, h3⟩
    · refine ⟨k, h, hb, fun i hi => Classical.byContradiction fun hx => he ⟨i, by omega, hx⟩⟩

set_option maxHeartbeats 1000000 in
theorem refCheckMap_calls (v : Value) (m : MapD) (w : World) (hv : IsMap w v m) (hl : m.length ≤ 1099511627776) :
    Calls Tryd.prog 15 #[v] w fun e w' => e = .returned (.int .i64 (checkM m)) ∧ ∃ d, w' = w.drewN d := by
  by_cases h0 : m.length = 0
  · obtain ⟨a, cap, rfl⟩ := hv.slice
    obtain rfl : m = [] := List.eq_nil_of_length_eq_zero h0
    clear hv
    go_enter Tryd.func15, Tryd.ntmps15
    go_wp2
    go_ret
    exact ⟨rfl, 0, rfl⟩
  · by_cases hok : okMap m = true
    · rw [checkM, if_pos hok]
      exact refCheckMap_good v m w hv hl (by omega) (fun k hk => okMap_good hok k hk)
    · rw [checkM, if_neg hok]
      have hex : ∃ k, k < m.length ∧ ¬ GoodAt m k := Classical.byContradiction fun h => hok (good_okMap (by omega) fun k hk => Classical.byContradiction fun hx => h ⟨k, hk, hx⟩)
      obtain ⟨k, hk, hb, hg⟩ := first_bad m m.length hex
      cases k with
      | zero => exact refCheckMap_first v m w hv hl (by omega) hb
      | succ j => exact refCheckMap_later v m w hv hl j hk hg hb

end Go.Proofs.YtndhkbmgpjjepaaDoor

/- The reference's FindPos. Own work; no statement. -/
set_option linter.unusedSimpArgs false
set_option linter.unusedVariables false
namespace Go.Proofs.YtndhkbmgpjjepaaDoor
open Go.RowKit Go.Shelf

set_option maxHeartbeats 2000000 in
set_option maxRecDepth 100000 in
theorem refFindPos_calls (v : Value) (m : MapD) (pos : Int) (w : World) (hv : IsMap w v m) (hl : m.length ≤ 1099511627776) (hpos : pos ≤ 9223372036854775807) :
    Calls Tryd.prog 11 #[v, .int .i64 pos] w fun e w' => e = .returned (.tuple #[.int .i64 (findM m pos).1, .int .i64 (findM m pos).2.1, .int .i64 (findM m pos).2.2]) ∧ Below w.heap.size w w' := by
  have C := hide (refCheckMap_calls v m w hv hl)
  have Hv := hide hv
  obtain ⟨a, cap, rfl⟩ := hv.slice
  clear hv
  obtain ⟨r, hr⟩ : ∃ r, findM m pos = r := ⟨_, rfl⟩
  rw [hr]
  by_cases h0 : pos < 0
  · obtain rfl : r = (0, 0, 1) := by rw [← hr, findM, if_neg (by omega)]
    go_enter Tryd.func11, Tryd.ntmps11
    go_wp2
    go_ret3
    exact ⟨rfl, Below.refl _ _⟩
  · by_cases hok : okMap m = true
    · have hc0 : checkM m = 0 := by rw [checkM, if_pos hok]
      rw [hc0] at C
      have he := epochM_pos (pos := pos) hok (by omega) m.length (okMap_pos hok)
      have hel := epochM_le m pos m.length
      have hfr := epochM_from (m := m) (pos := pos) m.length he
      have h00 := okMap_pos hok
      rw [findM, if_pos ⟨by omega, hok⟩] at hr
      have HN := hide (fun k hk => okMap_get hok k hk)
      have HP := hide (fun n hn => epochM_pos (pos := pos) hok (by omega) n hn)
      replace hr := hide hr
      go_enter Tryd.func11, Tryd.ntmps11
      go_wp2_with (go_at_call 15; refine C.out.mono ?_; rintro e w1 ⟨rfl, d, rfl⟩)
      have hB1 : Below w.heap.size w (w.drewN d) := below_draws d
      go_loop [7, 8] (fun kv iv => ∃ k i : Nat, kv = .int .i64 (k : Int) ∧ iv = .int .i64 (i : Int) ∧ i ≤ m.length ∧ k = epochM m pos i - 1) (fun _ iv => m.length - (intOf iv).toNat)
      case atStart => exact ⟨0, 0, rfl, rfl, Nat.zero_le _, rfl⟩
      case round =>
        obtain ⟨k, i, rfl, rfl, hi, hki⟩ := hrel
        by_cases hlt : i < m.length
        · have hltI : (i : Int) < (m.length : Int) := by omega
          obtain ⟨-, b, o, rfl, hbw, c0, c1⟩ := Hv.out.at i hlt
          have d0 : (w.drewN d).cell? ⟨b, o + i * 2, none⟩ = _ := c0
          have hst : epochM m pos (i + 1) = if (m.getD i (0, 0)).1 ≤ pos then i + 1 else epochM m pos i := rfl
          generalize (m.getD i (0, 0)).1 = F at *
          replace hst := hide hst
          replace hki := hide hki
          by_cases hF : F ≤ pos
          · have hF' : ¬ pos < F := by omega
            go_wp2
            exact ⟨⟨i, i + 1, rfl, by go_num, by omega, by rw [hst.out, if_pos hF]; rfl⟩, by simp [intOf]; omega⟩
          · have hF' : pos < F := by omega
            go_wp2
            exact ⟨⟨k, i + 1, rfl, by go_num, by omega, by rw [hst.out, if_neg hF]; exact hki.out⟩, by simp [intOf]; omega⟩
        · have hltI : ¬ (i : Int) < (m.length : Int) := by omega
          obtain rfl : i = m.length := by omega
          have hkm : k < m.length := by omega
          obtain ⟨-, b, o, rfl, hbw, c0, c1⟩ := Hv.out.at k hkm
          have d0 : (w.drewN d).cell? ⟨b, o + k * 2, none⟩ = _ := c0
          have d1 : (w.drewN d).cell? ⟨b, o + k * 2 + 1, none⟩ = _ := c1
          have hN := HN.out k hkm
          rw [← hki] at hfr
          rw [← getD_get m k hkm] at hN
          have hr2 := hr.out
          rw [← hki] at hr2
          have hke : epochM m pos m.length = k + 1 := by omega
          rw [hke] at hr2
          clear hki hke he hel
          generalize m.getD k (0, 0) = x at *
          obtain ⟨F, N⟩ := x
          dsimp only at *
          subst hr2
          have hN0 : ¬ N = 0 := by omega
          have hN0' : (N == 0) = false := by rw [beq_eq_false_iff_ne]; exact hN0
          go_wp2
          go_region
          all_goals
            go_wp2
            go_ret3
            exact ⟨by simp, hB1.drew⟩
    · have hc0 : checkM m = 1 := by rw [checkM, if_neg hok]
      rw [hc0] at C
      obtain rfl : r = (0, 0, 1) := by rw [← hr, findM, if_neg (fun h => hok h.2)]
      go_enter Tryd.func11, Tryd.ntmps11
      go_wp2_with (go_at_call 15; refine C.out.mono ?_; rintro e w1 ⟨rfl, d, rfl⟩)
      go_ret3
      exact ⟨rfl, below_draws d⟩

end Go.Proofs.YtndhkbmgpjjepaaDoor

/- The walk of MapParts. Own work; no statement. -/
set_option linter.unusedSimpArgs false
set_option linter.unusedVariables false
namespace Go.Proofs.YtndhkbmgpjjepaaDoor
open Go.RowKit Go.Shelf

theorem u16_turn {x f : Int} (h0 : 0 ≤ x) (h1 : x ≤ 65535) (h2 : 0 ≤ f) (h3 : f ≤ 1000) : wrap64 (f + wrap64 ((IntKind.u16.wrap (x.tdiv 8)).tmod 9)) = f + x / 8 % 9 := by
  have e1 : IntKind.u16.wrap (x.tdiv 8) = x / 8 := by
    rw [Int.tdiv_eq_ediv_of_nonneg h0]
    simp only [IntKind.wrap, IntKind.bits, IntKind.signed]
    simp
    omega
  rw [e1, Int.tmod_eq_emod_of_nonneg (by omega), wrap64_mid (x / 8 % 9) (by omega) (by omega), wrap64_mid _ (by omega) (by omega)]

set_option maxRecDepth 100000 in
set_option maxHeartbeats 4000000 in
theorem mapParts_main (v : Value) (l : List Int) (at_ from_ n : Int) (w : World) (hv : IsNums .u16 w v l) (hw : ∀ n ∈ l, (Lit.int .u16 n).wf = true) (hat : (Lit.int .u8 at_).wf = true) (hfrom : (Lit.int .u8 from_).wf = true) (hn : (Lit.int .u8 n).wf = true) (hp : Pow w) :
    Calls Tryd.prog 5 #[v, .int .u8 at_, .int .u8 from_, .int .u8 n] w fun e w' => e = .returned (.bool true) ∧ Below w.heap.size w w' := by
  obtain ⟨i0, hi0, hz0, hz1, hz2⟩ := info_parts Tryd.info48
  obtain ⟨i1, hi1, hy0, hy1, hy2⟩ := info_parts Tryd.info3
  have K := hide (known5_calls w hp)
  have Hv := hide hv
  obtain ⟨a, cap, rfl, hcap, -⟩ := id hv
  have hw' : ∀ t, t < l.length → 0 ≤ l.getD t 0 ∧ l.getD t 0 ≤ 65535 := by
    intro t ht
    rw [List.getD_eq_getElem?_getD, List.getElem?_eq_getElem ht]
    exact rng16 (hw _ (List.getElem_mem ht))
  have Hw := hide hw'
  have hn' := rng8 hn
  have hat' := rng8 hat
  have hfrom' := rng8 hfrom
  clear hv hw hw' hn hat hfrom
  by_cases hl : l.length < 1
  · have hlI : (l.length : Int) < 1 := by omega
    go_enter Tryd.func5, Tryd.ntmps5
    go_wp2_with (go_at_call 8; refine K.out.mono ?_; rintro e w1 ⟨rfl, hB1⟩)
    go_ret
    exact ⟨rfl, hB1⟩
  · by_cases hl8 : 8 < l.length
    · have hlI : ¬ (l.length : Int) < 1 := by omega
      have hlI8 : (8 : Int) < (l.length : Int) := by omega
      go_enter Tryd.func5, Tryd.ntmps5
      go_wp2_with (go_at_call 8; refine K.out.mono ?_; rintro e w1 ⟨rfl, hB1⟩)
      go_ret
      exact ⟨rfl, hB1⟩
    · have hlI : ¬ (l.length : Int) < 1 := by omega
      have hlI8 : ¬ (8 : Int) < (l.length : Int) := by omega
      go_enter Tryd.func5, Tryd.ntmps5
      go_wp2_with (go_at_call 8; refine K.out.mono ?_; rintro e w1 ⟨rfl, hB1⟩)
      obtain ⟨w2, hw2⟩ : ∃ w2, w1.alloc (.cells #[] 48) = w2 := ⟨_, rfl⟩
      have hB2 : Below w.heap.size w w2 := by rw [← hw2]; exact hB1.alloc hB1.size _
      have hm0 : OwnsM w2 w.heap.size (.slice (some ⟨w1.heap.size, 0, none⟩) 0 0) [] := by rw [← hw2]; exact World.ownsRow_made w1 #[] 0 hB1.size (Nat.zero_le _) (by simp)
      rw [hw2]
      clear hw2 K
      go_loopw [9, 10, 11] (fun vm f i wr => ∃ k : Nat, i = .int .i64 (k : Int) ∧ k ≤ l.length ∧ f = .int .i64 (fromG l k) ∧ OwnsM wr w.heap.size vm (mapP l k) ∧ Below w.heap.size w wr) (fun _ _ i _ => l.length - (intOf i).toNat)
      case atStart => exact ⟨0, rfl, Nat.zero_le _, rfl, hm0, hB2⟩
      case round =>
        clear hm0 hB2 hB1
        obtain ⟨k, rfl, hk, rfl, hm, hB⟩ := hrel
        have hfr := fromG_range l k
        have hbs := hB.size
        by_cases hkl : k < l.length
        · have hklI : (k : Int) < (l.length : Int) := by omega
          obtain ⟨b, o, rfl, hc⟩ : ∃ b o, a = some ⟨b, o, none⟩ ∧ wr.cell? ⟨b, o + k, none⟩ = some (.int .u16 (l.getD k 0)) := by
            obtain ⟨a', cap', e, _, h⟩ := Hv.out.below hB
            cases e
            exact h k hkl
          have hbb : b < w.heap.size := by
            obtain ⟨a', cap', e, _, h⟩ := Hv.out
            cases e
            obtain ⟨b', o', e', h'⟩ := h k hkl
            cases e'
            exact World.block_lt_of_cell? w _ h'
          have hx := Hw.out k hkl
          have hfs : Hid (fromG l (k + 1) = fromG l k + l.getD k 0 / 8 % 9) := rfl
          have hgs : Hid (mapP l (k + 1) = mapP l k ++ [(fromG l k, 1 + l.getD k 0 % 8)]) := rfl
          have hlen : (mapP l k).length ≤ 1000 := by rw [mapP_length]; omega
          generalize l.getD k 0 = x at *
          generalize fromG l k = f at *
          generalize mapP l k = m at *
          obtain ⟨am, cm, rfl⟩ := ownsRow_slice hm
          go_wp2_with (at_builtin; refine wpList_append_own _ rfl (.tmp 39) _ 23 rfl w.heap.size 48 i0 _ 2 16 Tryd.underlying23 hi0 hz0 hz1 hz2 rfl (by decide) _ _ _ rfl (World.ownsRow.alloc hm _) ⟨_, 0, none⟩ 1 1 [.int .i64 f, .int .i64 (1 + x % 8)] rfl rfl (two_new (by simp)) two_one (by unfold maxLen; omega) (by omega) (by simp; omega) ?_; intro v1 w3 hown1 hgrow1 _; have hc3 := kept_cell hm hgrow1 hbb hc)
          have hB3 : Below w.heap.size w w3 := (hB.alloc hB.size _).grown hgrow1 (by simp; omega) (fun j hj => (hm.lt j hj).1)
          refine ⟨⟨k + 1, by go_num, by omega, by rw [hfs.out, u16_turn hx.1 hx.2 (by omega) (by omega)], ?_, hB3⟩, by simp [intOf]; omega⟩
          rw [hgs.out, OwnsM, List.length_append, cellsM_append]
          exact hown1
        · have hkl' : k = l.length := by omega
          have hok := mapP_ok l k (by omega)
          have hth := mapP_then l k (by omega)
          have hnu := mapP_nums l k (by omega)
          have hlen : (mapP l k).length ≤ 1000 := by rw [mapP_length]; omega
          generalize mapP l k = m at *
          clear hfr hkl'
          have HO := hide hok
          have HT := hide hth
          have HU := hide hnu
          have Hm := hide hm
          clear hok hth hnu hm Hv Hw
          obtain ⟨A0, hA0⟩ : ∃ A0 : Nat, from_ % 60 = (A0 : Int) := Int.eq_ofNat_of_zero_le (Int.emod_nonneg from_ (by decide))
          have hA60 : A0 < 60 := by have := Int.emod_lt_of_pos from_ (show (0 : Int) < 60 by decide); omega
          obtain ⟨N0, hN0⟩ : ∃ N0 : Nat, n % 60 = (N0 : Int) := Int.eq_ofNat_of_zero_le (Int.emod_nonneg n (by decide))
          have hN60 : N0 < 60 := by have := Int.emod_lt_of_pos n (show (0 : Int) < 60 by decide); omega
          obtain ⟨K0, hK0⟩ : ∃ K0 : Nat, at_ % 9 = (K0 : Int) := Int.eq_ofNat_of_zero_le (Int.emod_nonneg at_ (by decide))
          have hK9 : K0 < 9 := by have := Int.emod_lt_of_pos at_ (show (0 : Int) < 9 by decide); omega
          have P := hide (positions_calls _ m K0 A0 (A0 + N0) wr (OwnsM.map Hm.out) (by omega))
          have hpw := posL_want HO.out K0 A0 N0 (by omega)
          have hpl := wantL_length m K0 A0 N0
          obtain ⟨am, cm, rfl⟩ := ownsRow_slice Hm.out
          go_wp2_with fail
          refine P.out.mono ?_
          rintro e w4 ⟨rfl, ⟨vr, hpos⟩, hB4⟩
          rw [HT.out] at hpos
          have NN := hide (nums_calls _ vr m K0 A0 (A0 + N0) 200 w4 hpos (by omega) HU.out (by omega) (by omega) (by omega) (by rw [hpw]; omega) (by omega))
          rw [hpw] at NN
          unfold posV at NN
          have hm4 := (OwnsM.map Hm.out).below hB4
          have hB5 : Below w.heap.size w w4 := hB.trans (hB4.mono hbs)
          clear P hpos hB4 hpw Hm hB hbs
          go_wp2_with fail
          refine NN.out.mono ?_
          rintro e w5 ⟨vx, rfl, hownx, hB6⟩
          have hnx := IsNums.of_row hownx
          obtain ⟨ax, cx, rfl⟩ := ownsRow_slice hownx
          have hm5 := hm4.below hB6
          have hB7 : Below w.heap.size w w5 := hB5.trans (hB6.mono hB5.size)
          clear NN hownx hB6 hm4 hB5
          go_wp2_with fail
          go_loopw [17, 18] (fun vw xv wi => ∃ j : Nat, xv = .int .i64 ((A0 : Int) + (j : Int)) ∧ j ≤ N0 ∧ wi.ownsRow w5.heap.size 3 1 vw (wantL m K0 A0 j).length ((wantL m K0 A0 j).map (Value.int .i64)) ∧ Below w5.heap.size w5 wi) (fun _ xv _ => (A0 + N0 - intOf xv).toNat)
          case atStart => exact ⟨0, by simp, Nat.zero_le _, World.ownsRow_nil _ _ _ _, Below.refl _ _⟩
          case round =>
            obtain ⟨j, rfl, hj, hownw, hB8⟩ := hrel
            have hwl := wantL_length m K0 A0 j
            have hbs8 := hB8.size
            by_cases hjn : j < N0
            · have hjI : (A0 : Int) + (j : Int) < (A0 : Int) + (N0 : Int) := by omega
              have O := hide (of5_calls _ m wr (hm5.below hB8) (by omega))
              have hfe : (findM m ((A0 : Int) + j)).2.2 = 0 := by unfold findM; rw [if_pos ⟨by omega, HO.out⟩]
              have hws : Hid (wantL m K0 A0 (j + 1) = wantL m K0 A0 j ++ (if (findM m ((A0 : Int) + j)).2.1 = K0 then [(A0 : Int) + j] else [])) := rfl
              have F := hide fun v W hv => refFindPos_calls v m ((A0 : Int) + j) W hv (by omega) (by omega)
              generalize findM m ((A0 : Int) + j) = r at *
              obtain ⟨r1, r2, r3⟩ := r
              dsimp only at *
              subst hfe
              generalize hwj : wantL m K0 A0 j = L at *
              replace hwj := hide hwj
              obtain ⟨aw, cw, rfl⟩ := ownsRow_slice hownw
              go_wp2_with fail
              refine O.out.mono ?_
              rintro e w6 ⟨vo, rfl, howno, hB9⟩
              have F2 := hide (F.out vo w6 (OwnsR.map howno))
              have hB10 : Below w5.heap.size w5 w6 := hB8.trans (hB9.mono hbs8)
              have hw6 := ownsRow_of_heap hownw fun k e => hB9.block k (hownw.lt k e).2
              obtain ⟨ao, co, rfl⟩ := ownsRow_slice howno
              clear O F howno hownw
              go_wp2_with fail
              refine F2.out.mono ?_
              rintro e w7 ⟨rfl, hB11⟩
              have hB12 : Below w5.heap.size w5 w7 := hB10.trans (hB11.mono hB10.size)
              have hw7 := ownsRow_of_heap hw6 fun k e => hB11.block k (hw6.lt k e).2
              have hbs12 := hB12.size
              clear F2 hw6 hB11 hB10 hB9 hB8
              by_cases hrk : r2 = (K0 : Int)
              · have hrb : (r2 == (K0 : Int)) = true := by rw [beq_iff_eq]; exact hrk
                rw [if_pos hrk] at hws
                go_wp2_with (at_builtin; refine wpList_append_own _ rfl (.tmp 103) _ 49 rfl w5.heap.size 3 i1 (.int .i64 0) 1 8 Tryd.underlying49 hi1 hy0 hy1 hy2 rfl (by decide) _ _ _ rfl (World.ownsRow.alloc hw7 _) ⟨_, 0, none⟩ 1 1 [.int .i64 ((A0 : Int) + (j : Int))] rfl rfl (cell_one_at (by simp)) (by intro u hu; simp at hu; subst hu; rfl) (by unfold maxLen; omega) (by omega) (by simp; omega) ?_; intro v1 w8 hown1 hgrow1 _)
                have hB13 : Below w5.heap.size w5 w8 := (hB12.alloc hbs12 _).grown hgrow1 (by simp; omega) (fun k e => (hw7.lt k e).1)
                refine ⟨⟨j + 1, by go_num, by omega, ?_, hB13⟩, by simp [intOf]; omega⟩
                rw [hws.out, List.length_append, List.map_append]
                exact hown1
              · have hrb : (r2 == (K0 : Int)) = false := by rw [beq_eq_false_iff_ne]; exact hrk
                rw [if_neg hrk, List.append_nil] at hws
                go_wp2_with fail
                refine ⟨⟨j + 1, by go_num, by omega, ?_, hB12⟩, by simp [intOf]; omega⟩
                rw [hws.out]
                exact hw7
            · have hjN : j = N0 := by omega
              subst hjN
              have I := hide (ints_calls _ _ _ _ wr (hnx.below hB8) (IsNums.of_row hownw) (by omega) (by omega))
              rw [decide_eq_true rfl] at I
              obtain ⟨aw, cw, rfl⟩ := ownsRow_slice hownw
              go_wp2_with fail
              refine I.out.mono ?_
              rintro e w6 ⟨rfl, d, rfl⟩
              go_wp2
              go_ret
              exact ⟨rfl, (hB7.trans (hB8.mono hB7.size)).trans (below_draws d)⟩

end Go.Proofs.YtndhkbmgpjjepaaDoor

/- What the proofs of the statements share: slices that came in. Own work; no statement. -/
set_option linter.unusedSimpArgs false
set_option linter.unusedVariables false
namespace Go.Proofs.YtndhkbmgpjjepaaDoor
open Go.ChangeShapes Go.WideShapes Go.ChangeAt Go.RowKit

theorem own : ownKnob Tryd.prog.godebug = none := by kernel_rfl
theorem laidOut : laidOutB Tryd.prog = true := by kernel_rfl

/-- A slice of integers that came in: what it reads as; its numbers fit their kind. -/
theorem nums_of_open {H : Type} {enc : TypeId × Value → H} {W : World} {base : Nat} {sp : Nat → Bool} {held : Bool} {t e : TypeId} {k : IntKind} {fuel : Nat} {a : Option Addr} {len cap : Nat} {x : DataW H × List MemPlace}
    (ht : Tryd.prog.underlying t = some (.slice e)) (he : Tryd.prog.underlying e = some (.int k)) (hc : Tryd.prog.cellsOf e = 1) (h : DataW.trod enc Tryd.prog W base sp held fuel t [.slice a len cap] = some x) (hsp : ∀ b, sp b = true) :
    ∃ zs : List Int, IsNums k W (.slice a len cap) zs ∧ (∀ n ∈ zs, (Lit.int k n).wf = true) := by
  rcases open_ints ht he hc h with ⟨hcs, _⟩ | ⟨y, l, c, zs, hcs, _, hl, hm, hz, _, hcell, hwz⟩
  · simp at hcs
    obtain ⟨rfl, rfl, rfl⟩ := hcs
    exact ⟨[], IsNums.nil _ _ _ _, fun n hn => absurd hn (by simp)⟩
  · simp at hcs
    obtain ⟨rfl, rfl, rfl⟩ := hcs
    rw [hsp, if_pos rfl] at hz
    have hlen : (zs.take len).length = len := by simp; omega
    refine ⟨zs.take len, ⟨some y, cap, by rw [hlen], by omega, fun i hi => ?_⟩, fun n hn => hwz n (List.mem_of_mem_take hn)⟩
    obtain ⟨b, off, rfl, hc'⟩ := ints_at hcell (by omega)
    refine ⟨b, off, rfl, ?_⟩
    rw [hc' i (by omega)]
    simp [List.getD, List.getElem?_take, show i < len by omega]

end Go.Proofs.YtndhkbmgpjjepaaDoor
