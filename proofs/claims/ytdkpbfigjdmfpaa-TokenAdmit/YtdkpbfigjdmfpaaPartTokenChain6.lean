/- Own work: the parts TK5, TK6, R9, TK7, TK8 of the proof, laid together. -/
import Derived.Test.YtdkpbfigjdmfpaaPartTokenChain3
import Derived.Test.YtdkpbfigjdmfpaaPartTokenChain4
import Derived.Test.YtdkpbfigjdmfpaaPartTokenChain5
import Derived.Deep.Cut
import Derived.Laws.StructEq
import Derived.WideKeyRuns
import Derived.Maps.Keyed
import Derived.Carry
import Derived.Outline
import Derived.Laws.AppendOwn
/- token's admitted: a draft gets its position. Own work; no statement. -/
set_option linter.unusedSimpArgs false
set_option linter.unusedVariables false
namespace Go.Proofs.Ytdkpbfigjdmfpaa
open Go.RowKit Go.Shelf Go.Sort

set_option maxHeartbeats 4000000 in
set_option maxRecDepth 100000 in
theorem admitted_calls (own next : Int) (seen : List Int) (sv : Value) (la : Option Addr) (ln lc : Nat) (vd : Value) (d : DrD) (w : World) (hn : IsNums .i64 w sv seen) (hd : IsDr w vd d) (hs : SeenOk seen) (hok : DrOk d) (hm : mayD own seen d = true) (hx : 0 ≤ next ∧ next ≤ 4611686018427387904) :
    Calls Try.prog 36 #[.agg #[.int .i64 own, .int .i64 next, sv, .slice la ln lc], vd] w fun e w' => ∃ sv' dv, e = .returned (.tuple #[.agg #[.int .i64 own, .int .i64 (next + 1), sv', .slice la ln lc], .agg #[.int .i64 next, .int .i64 d.ticket, .int .i64 d.r.site, .int .i64 (putT own seen d).r.seq, dv, .string d.r.key, .string d.r.val]]) ∧
      w'.ownsRow w.heap.size 3 1 sv' (seenT own seen d).length ((seenT own seen d).map (Value.int .i64)) ∧ w'.ownsRow w.heap.size 3 1 dv d.r.dep.length (d.r.dep.map (Value.int .i64)) ∧ RowKit.Below w.heap.size w w' := by
  obtain ⟨q, hq⟩ : ∃ q, (putT own seen d).r.seq = q := ⟨_, rfl⟩
  have hq2 := (may_put hm).1
  have hS : seenT own seen d = withL seen d.r.site q := by rw [← hq]; rfl
  rw [hq, hS]
  rw [hq] at hq2
  have hg := hs.rng d.r.site
  have hl := hs.len
  obtain ⟨sa, sc, rfl⟩ := hn.form
  have hdl := hok.dep
  have C1 := hide (fun v w' (hv : IsDr w' v d) => tokCopied_calls v d w' hv (by omega))
  have hown : d.r.site = own ∨ (d.r.site ≠ own ∧ d.r.seq = q) := by
    by_cases h : d.r.site = own
    · exact .inl h
    · refine .inr ⟨h, ?_⟩
      rw [← hq]
      unfold putT
      rw [if_neg h]
  clear hm hS hq hok hs
  obtain ⟨ticket, ⟨site, seq, dep, key, val⟩⟩ := d
  obtain ⟨a, cap, rfl, hm⟩ := hd
  dsimp only at *
  obtain ⟨g, hgg⟩ : ∃ g, geti seen site = g := ⟨_, rfl⟩
  rw [hgg] at hg hq2
  subst hq2
  have Hn := hide hn
  have Hm := hide hm
  have Hgg := hide hgg
  clear hn hm hgg
  obtain ⟨W0, hW0, hsz, hB0, h0, h1, h2, h3⟩ := new4T w #[.int .i64 own, .int .i64 next, .slice sa seen.length sc, .slice la ln lc] #[.int .i64 ticket, .int .i64 site, .int .i64 seq, .slice a dep.length cap, .string key, .string val] #[.int .i64 0, .int .i64 0, .slice none 0 0, .slice none 0 0] #[.int .i64 0, .int .i64 0, .int .i64 0, .int .i64 0, .slice none 0 0, .string ⟨#[]⟩, .string ⟨#[]⟩] 26 41 26 58
  have HW := hide hW0
  have HB0 := hide hB0
  have H0 := hide h0
  have H1 := hide h1
  have H2 := hide h2
  have H3 := hide h3
  have Hsz := hide hsz
  clear hW0 hB0 h0 h1 h2 h3 hsz
  go_enter Try.func36, Try.ntmps36
  go_wp2_with fail
  rw [HW.out]
  refine (C1.out _ W0 ⟨a, cap, rfl, Hm.out.below HB0.out⟩).mono ?_
  rintro e w1 ⟨v1, rfl, ⟨dv, rfl, hdv⟩, hb1⟩
  obtain ⟨da, dc, rfl⟩ := ownsRow_slice hdv
  dsimp only at hdv ⊢
  have e0 := keepB H0.out hb1
  have e1 := keepB H1.out hb1
  have e2 := keepB H2.out hb1
  have e3 := keepB H3.out hb1
  have hs1 := hb1.size
  have hs0 := Hsz.out
  have HB1 := hide (HB0.out.trans (hb1.mono HB0.out.size))
  have Hdv := hide hdv
  clear HW HB0 H0 H1 H2 H3 Hsz C1 hb1 hdv
  obtain ⟨x0, x1, x2, x3, x4, x5, y0, y1, y2, y3, y4, y5⟩ := cells6T e1
  go_upto_region 2 with fail
  have f1 := put6T_heap e1 (.int .i64 ticket) (.int .i64 site) (.int .i64 seq) (.slice da dep.length dc) (.string key) (.string val)
  have hB2 := put6T_below HB1.out (show w.heap.size ≤ w.heap.size + 1 by omega) (.int .i64 ticket) (.int .i64 site) (.int .i64 seq) (.slice da dep.length dc) (.string key) (.string val)
  have hoth : ∀ k, k ≠ w.heap.size + 1 → (put6T w1 (w.heap.size + 1) (.int .i64 ticket) (.int .i64 site) (.int .i64 seq) (.slice da dep.length dc) (.string key) (.string val)).heap[k]? = w1.heap[k]? := fun k hk => put6T_other k hk _ _ _ _ _ _
  have hz2 : (put6T w1 (w.heap.size + 1) (.int .i64 ticket) (.int .i64 site) (.int .i64 seq) (.slice da dep.length dc) (.string key) (.string val)).heap.size = w1.heap.size := by simp [put6T]
  obtain ⟨W2, hW2⟩ : ∃ W2, put6T w1 (w.heap.size + 1) (.int .i64 ticket) (.int .i64 site) (.int .i64 seq) (.slice da dep.length dc) (.string key) (.string val) = W2 := ⟨_, rfl⟩
  rw [hW2] at f1 hB2 hoth hz2
  unfold put6T at hW2
  rw [hW2]
  have f0 := (hoth w.heap.size (by omega)).trans e0
  have f2 := (hoth (w.heap.size + 2) (by omega)).trans e2
  have f3 := (hoth (w.heap.size + 3) (by omega)).trans e3
  have hdv2 := ownsRow_of_heap Hdv.out fun k hk => hoth k (by have := (Hdv.out.lt k hk).1; omega)
  clear hW2 e0 e1 e2 e3 x0 x1 x2 x3 x4 x5 y0 y1 y2 y3 y4 y5 HB1 Hdv hoth
  have hw : W0.heap.size ≤ W2.heap.size := by omega
  clear hz2 hs1
  rcases hown with rfl | ⟨hso, rfl⟩
  case' inl =>
    obtain ⟨x0, x1, x2, x3, x4, x5, y0, y1, y2, y3, y4, y5⟩ := cells6T f1
    obtain ⟨k0, k1, k2, k3, l0, l1, l2, l3⟩ := cells4T f0
    have F0 := hide f0
    have F1 := hide f1
    clear f0 f1
    go_wp2_with fail
    refine (get_calls _ seen site W2 (Hn.out.below hB2) (by omega)).mono ?_
    rintro e w' ⟨rfl, rfl⟩
    rw [Hgg.out]
    go_upto_region 4 with fail
    have f1 := setAt (j := 2) F1.out (.int .i64 (g + 1))
    have hoth : ∀ k, k ≠ w.heap.size + 1 → (w'.setCell ⟨w.heap.size + 1, 2, none⟩ (.int .i64 (g + 1))).heap[k]? = w'.heap[k]? := fun k hk => Below.heap_setCell _ _ _ _ hk
    have hB3 := hB2.setCell (p := ⟨w.heap.size + 1, 2, none⟩) (by simp) (.int .i64 (g + 1))
    have hz3 : (w'.setCell ⟨w.heap.size + 1, 2, none⟩ (.int .i64 (g + 1))).heap.size = w'.heap.size := by simp
    generalize w'.setCell ⟨w.heap.size + 1, 2, none⟩ (.int .i64 (g + 1)) = W3 at *
    have f0 := (hoth w.heap.size (by omega)).trans F0.out
    replace f2 := (hoth (w.heap.size + 2) (by omega)).trans f2
    replace f3 := (hoth (w.heap.size + 3) (by omega)).trans f3
    replace hdv2 := ownsRow_of_heap hdv2 fun k hk => hoth k (by have := (hdv2.lt k hk).1; omega)
    clear F0 F1 hB2 hoth x0 x1 x2 x3 x4 x5 y0 y1 y2 y3 y4 y5 k0 k1 k2 k3 l0 l1 l2 l3
    have hw3 : W0.heap.size ≤ W3.heap.size := by omega
    simp at f1
    clear hw hz3
  case' inr =>
    have hsb : (site == own) = false := by simpa using hso
    clear hso
    obtain ⟨x0, x1, x2, x3, x4, x5, y0, y1, y2, y3, y4, y5⟩ := cells6T f1
    obtain ⟨k0, k1, k2, k3, l0, l1, l2, l3⟩ := cells4T f0
    go_upto_region 4 with fail
    clear x0 x1 x2 x3 x4 x5 y0 y1 y2 y3 y4 y5 k0 k1 k2 k3 l0 l1 l2 l3
    have hw3 := hw
    have hB3 := hB2
    clear hB2 hw
    generalize W2 = W3 at *
  · obtain ⟨x0, x1, x2, x3, x4, x5, y0, y1, y2, y3, y4, y5⟩ := cells6T f1
    obtain ⟨k0, k1, k2, k3, l0, l1, l2, l3⟩ := cells4T f0
    have F0 := hide f0
    have F1 := hide f1
    have F2 := hide f2
    have F3 := hide f3
    clear f0 f1 f2 f3
    go_upto_region 5 with fail
    clear x0 x1 x2 x3 x4 x5 y0 y1 y2 y3 y4 y5 k0 k1 k2 k3 l0 l1 l2 l3
    have hbx := box_below W3 (.cells #[.int .i64 next, .int .i64 ticket, .int .i64 site, .int .i64 (g + 1), .slice da dep.length dc, .string key, .string val] 58)
    have g6 := World.alloc_heap_new W3 (.cells #[.int .i64 next, .int .i64 ticket, .int .i64 site, .int .i64 (g + 1), .slice da dep.length dc, .string key, .string val] 58)
    have hz4 : (W3.alloc (.cells #[.int .i64 next, .int .i64 ticket, .int .i64 site, .int .i64 (g + 1), .slice da dep.length dc, .string key, .string val] 58)).heap.size = W3.heap.size + 1 := by simp
    generalize W3.alloc (.cells #[.int .i64 next, .int .i64 ticket, .int .i64 site, .int .i64 (g + 1), .slice da dep.length dc, .string key, .string val] 58) = W4 at *
    have hB4 := hB3.trans (hbx.mono hB3.size)
    have g0 := keepB F0.out hbx
    have g1 := keepB F1.out hbx
    have g2 := keepB F2.out hbx
    have g3 := keepB F3.out hbx
    have hdv4 := own_below hdv2 hbx
    clear hdv2 hbx hB3 F0 F1 F2 F3
    obtain ⟨x0, x1, x2, x3, x4, x5, -, -, -, -, -, -⟩ := cells6T g1
    obtain ⟨k0, k1, k2, k3, l0, l1, l2, l3⟩ := cells4T g0
    have G0 := hide g0
    have G1 := hide g1
    have G2 := hide g2
    have G3 := hide g3
    have G6 := hide g6
    have Hdv := hide hdv4
    clear g0 g1 g2 g3 g6 hdv4
    go_upto_region 6 with fail
    have g0 := setAt (j := 1) G0.out (.int .i64 (next + 1))
    have hoth : ∀ k, k ≠ w.heap.size → (W4.setCell ⟨w.heap.size, 1, none⟩ (.int .i64 (next + 1))).heap[k]? = W4.heap[k]? := fun k hk => Below.heap_setCell _ _ _ _ hk
    have hB5 := hB4.setCell (p := ⟨w.heap.size, 1, none⟩) (Nat.le_refl _) (.int .i64 (next + 1))
    have hz5 : (W4.setCell ⟨w.heap.size, 1, none⟩ (.int .i64 (next + 1))).heap.size = W4.heap.size := by simp
    generalize W4.setCell ⟨w.heap.size, 1, none⟩ (.int .i64 (next + 1)) = W5 at *
    simp at g0
    have g1 := (hoth (w.heap.size + 1) (by omega)).trans G1.out
    have g2 := (hoth (w.heap.size + 2) (by omega)).trans G2.out
    have g3 := (hoth (w.heap.size + 3) (by omega)).trans G3.out
    have g6 := (hoth W3.heap.size (by omega)).trans G6.out
    have hdv5 := ownsRow_of_heap Hdv.out fun k hk => hoth k (by have := (Hdv.out.lt k hk).1; omega)
    clear hoth G0 G1 G2 G3 G6 Hdv hB4 x0 x1 x2 x3 x4 x5 k0 k1 k2 k3 l0 l1 l2 l3
    obtain ⟨x0, x1, x2, x3, x4, x5, -, -, -, -, -, -⟩ := cells6T g1
    obtain ⟨k0, k1, k2, k3, l0, l1, l2, l3⟩ := cells4T g0
    have C := hide (withO_calls _ seen site (g + 1) W5 (Hn.out.below hB5) (by omega))
    have G0 := hide g0
    have G2 := hide g2
    have G3 := hide g3
    have G6 := hide g6
    have Hdv := hide hdv5
    have hw5 : W0.heap.size ≤ W5.heap.size := by omega
    have hw6 : W3.heap.size < W5.heap.size := by omega
    clear g0 g1 g2 g3 g6 hdv5
    go_wp2_with fail
    refine C.out.mono ?_
    rintro e w6 ⟨sv', rfl, hown, hb6⟩
    obtain ⟨sa', sc', rfl⟩ := ownsRow_slice hown
    have g0 := keepB G0.out hb6
    have g2 := keepB G2.out hb6
    have g3 := keepB G3.out hb6
    have g6 := keepB G6.out hb6
    have hdv6 := own_below Hdv.out hb6
    have hB6 := hB5.trans (hb6.mono hB5.size)
    have hs6 := hb6.size
    clear G0 G2 G3 G6 Hdv hB5 hb6 C x0 x1 x2 x3 x4 x5 k0 k1 k2 k3 l0 l1 l2 l3
    obtain ⟨k0, k1, k2, k3, l0, l1, l2, l3⟩ := cells4T g0
    have G0 := hide g0
    have G2 := hide g2
    have G3 := hide g3
    have G6 := hide g6
    have Hdv := hide hdv6
    have Hown := hide hown
    clear g0 g2 g3 g6 hdv6 hown
    go_upto_region 7 with fail
    clear k0 k1 k2 k3 l0 l1 l2 l3
    have g0 := setAt (j := 2) G0.out (.slice sa' (withL seen site (g + 1)).length sc')
    have hoth : ∀ k, k ≠ w.heap.size → (w6.setCell ⟨w.heap.size, 2, none⟩ (.slice sa' (withL seen site (g + 1)).length sc')).heap[k]? = w6.heap[k]? := fun k hk => Below.heap_setCell _ _ _ _ hk
    have hB7 := hB6.setCell (p := ⟨w.heap.size, 2, none⟩) (Nat.le_refl _) (.slice sa' (withL seen site (g + 1)).length sc')
    have hz7 : (w6.setCell ⟨w.heap.size, 2, none⟩ (.slice sa' (withL seen site (g + 1)).length sc')).heap.size = w6.heap.size := by simp
    generalize w6.setCell ⟨w.heap.size, 2, none⟩ (.slice sa' (withL seen site (g + 1)).length sc') = W7 at *
    simp at g0
    have g2 : W7.heap[w.heap.size + 1 + 1]? = _ := (hoth (w.heap.size + 2) (by omega)).trans G2.out
    have g3 : W7.heap[w.heap.size + 1 + 1 + 1]? = _ := (hoth (w.heap.size + 3) (by omega)).trans G3.out
    have g6 := (hoth W3.heap.size (by omega)).trans G6.out
    have hdv7 := hide (ownsRow_of_heap Hdv.out fun k hk => hoth k (by have := (Hdv.out.lt k hk).1; omega))
    have hown7 := hide (ownsRow_of_heap Hown.out fun k hk => hoth k (by have := (Hown.out.lt k hk).1; omega))
    clear hoth G0 G2 G3 G6 Hdv Hown hB6
    obtain ⟨k0, k1, k2, k3, -, -, -, -⟩ := cells4T g0
    obtain ⟨x0, x1, x2, x3, x4, x5, x6, -, -, -, -, -, -, -⟩ := cells7T g6
    obtain ⟨y0, y1, y2, y3, l0, l1, l2, l3⟩ := cells4T g2
    obtain ⟨z0, z1, z2, z3, z4, z5, z6, v0, v1, v2, v3, v4, v5, v6⟩ := cells7T g3
    have G2 := hide g2
    have G3 := hide g3
    have HB7 := hide hB7
    clear g0 g2 g3 g6 hB7
    go_region
    go_wp2_with fail
    have e2 := put4T_heap G2.out (.int .i64 own) (.int .i64 (next + 1)) (.slice sa' (withL seen site (g + 1)).length sc') (.slice la ln lc)
    have hB8 := put4T_below HB7.out (show w.heap.size ≤ w.heap.size + 1 + 1 by omega) (.int .i64 own) (.int .i64 (next + 1)) (.slice sa' (withL seen site (g + 1)).length sc') (.slice la ln lc)
    have ho8 : ∀ k, k ≠ w.heap.size + 1 + 1 → (put4T W7 (w.heap.size + 1 + 1) (.int .i64 own) (.int .i64 (next + 1)) (.slice sa' (withL seen site (g + 1)).length sc') (.slice la ln lc)).heap[k]? = W7.heap[k]? := fun k hk => put4T_other k hk _ _ _ _
    obtain ⟨W8, hW8⟩ : ∃ W8, put4T W7 (w.heap.size + 1 + 1) (.int .i64 own) (.int .i64 (next + 1)) (.slice sa' (withL seen site (g + 1)).length sc') (.slice la ln lc) = W8 := ⟨_, rfl⟩
    rw [hW8] at e2 hB8 ho8
    unfold put4T at hW8
    rw [hW8]
    have e3 := put7T_heap ((ho8 (w.heap.size + 1 + 1 + 1) (by omega)).trans G3.out) (.int .i64 next) (.int .i64 ticket) (.int .i64 site) (.int .i64 (g + 1)) (.slice da dep.length dc) (.string key) (.string val)
    have hB9 := put7T_below hB8 (show w.heap.size ≤ w.heap.size + 1 + 1 + 1 by omega) (.int .i64 next) (.int .i64 ticket) (.int .i64 site) (.int .i64 (g + 1)) (.slice da dep.length dc) (.string key) (.string val)
    have ho9 : ∀ k, k ≠ w.heap.size + 1 + 1 + 1 → (put7T W8 (w.heap.size + 1 + 1 + 1) (.int .i64 next) (.int .i64 ticket) (.int .i64 site) (.int .i64 (g + 1)) (.slice da dep.length dc) (.string key) (.string val)).heap[k]? = W8.heap[k]? := fun k hk => put7T_other k hk _ _ _ _ _ _ _
    obtain ⟨W9, hW9⟩ : ∃ W9, put7T W8 (w.heap.size + 1 + 1 + 1) (.int .i64 next) (.int .i64 ticket) (.int .i64 site) (.int .i64 (g + 1)) (.slice da dep.length dc) (.string key) (.string val) = W9 := ⟨_, rfl⟩
    rw [hW9] at e3 hB9 ho9
    unfold put7T at hW9
    rw [hW9]
    have e2' : W9.drew.heap[w.heap.size + 1 + 1]? = _ := (ho9 (w.heap.size + 1 + 1) (by omega)).trans e2
    have e3' : W9.drew.heap[w.heap.size + 1 + 1 + 1]? = _ := e3
    obtain ⟨k0, k1, k2, k3, -⟩ := cells4T e2'
    obtain ⟨x0, x1, x2, x3, x4, x5, x6, -⟩ := cells7T e3'
    refine bodyPost_ret (v := .tuple #[.agg #[.int .i64 own, .int .i64 (next + 1), .slice sa' (withL seen site (g + 1)).length sc', .slice la ln lc], .agg #[.int .i64 next, .int .i64 ticket, .int .i64 site, .int .i64 (g + 1), .slice da dep.length dc, .string key, .string val]]) (by simp [results, Try.f36, go_sem, k0, k1, k2, k3, x0, x1, x2, x3, x4, x5, x6]) rfl ⟨_, _, rfl, ?_, ?_, hB9.drew⟩
    · exact ownsRow_low (ownsRow_of_heap hown7.out fun k hk => by have := (hown7.out.lt k hk).1; exact (ho9 k (by omega)).trans (ho8 k (by omega))) (by omega)
    · exact ownsRow_low (ownsRow_of_heap hdv7.out fun k hk => by have := (hdv7.out.lt k hk).1; exact (ho9 k (by omega)).trans (ho8 k (by omega))) (by omega)
  · obtain ⟨x0, x1, x2, x3, x4, x5, y0, y1, y2, y3, y4, y5⟩ := cells6T f1
    obtain ⟨k0, k1, k2, k3, l0, l1, l2, l3⟩ := cells4T f0
    have F0 := hide f0
    have F1 := hide f1
    have F2 := hide f2
    have F3 := hide f3
    clear f0 f1 f2 f3
    go_upto_region 5 with fail
    clear x0 x1 x2 x3 x4 x5 y0 y1 y2 y3 y4 y5 k0 k1 k2 k3 l0 l1 l2 l3
    have hbx := box_below W3 (.cells #[.int .i64 next, .int .i64 ticket, .int .i64 site, .int .i64 (g + 1), .slice da dep.length dc, .string key, .string val] 58)
    have g6 := World.alloc_heap_new W3 (.cells #[.int .i64 next, .int .i64 ticket, .int .i64 site, .int .i64 (g + 1), .slice da dep.length dc, .string key, .string val] 58)
    have hz4 : (W3.alloc (.cells #[.int .i64 next, .int .i64 ticket, .int .i64 site, .int .i64 (g + 1), .slice da dep.length dc, .string key, .string val] 58)).heap.size = W3.heap.size + 1 := by simp
    generalize W3.alloc (.cells #[.int .i64 next, .int .i64 ticket, .int .i64 site, .int .i64 (g + 1), .slice da dep.length dc, .string key, .string val] 58) = W4 at *
    have hB4 := hB3.trans (hbx.mono hB3.size)
    have g0 := keepB F0.out hbx
    have g1 := keepB F1.out hbx
    have g2 := keepB F2.out hbx
    have g3 := keepB F3.out hbx
    have hdv4 := own_below hdv2 hbx
    clear hdv2 hbx hB3 F0 F1 F2 F3
    obtain ⟨x0, x1, x2, x3, x4, x5, -, -, -, -, -, -⟩ := cells6T g1
    obtain ⟨k0, k1, k2, k3, l0, l1, l2, l3⟩ := cells4T g0
    have G0 := hide g0
    have G1 := hide g1
    have G2 := hide g2
    have G3 := hide g3
    have G6 := hide g6
    have Hdv := hide hdv4
    clear g0 g1 g2 g3 g6 hdv4
    go_upto_region 6 with fail
    have g0 := setAt (j := 1) G0.out (.int .i64 (next + 1))
    have hoth : ∀ k, k ≠ w.heap.size → (W4.setCell ⟨w.heap.size, 1, none⟩ (.int .i64 (next + 1))).heap[k]? = W4.heap[k]? := fun k hk => Below.heap_setCell _ _ _ _ hk
    have hB5 := hB4.setCell (p := ⟨w.heap.size, 1, none⟩) (Nat.le_refl _) (.int .i64 (next + 1))
    have hz5 : (W4.setCell ⟨w.heap.size, 1, none⟩ (.int .i64 (next + 1))).heap.size = W4.heap.size := by simp
    generalize W4.setCell ⟨w.heap.size, 1, none⟩ (.int .i64 (next + 1)) = W5 at *
    simp at g0
    have g1 := (hoth (w.heap.size + 1) (by omega)).trans G1.out
    have g2 := (hoth (w.heap.size + 2) (by omega)).trans G2.out
    have g3 := (hoth (w.heap.size + 3) (by omega)).trans G3.out
    have g6 := (hoth W3.heap.size (by omega)).trans G6.out
    have hdv5 := ownsRow_of_heap Hdv.out fun k hk => hoth k (by have := (Hdv.out.lt k hk).1; omega)
    clear hoth G0 G1 G2 G3 G6 Hdv hB4 x0 x1 x2 x3 x4 x5 k0 k1 k2 k3 l0 l1 l2 l3
    obtain ⟨x0, x1, x2, x3, x4, x5, -, -, -, -, -, -⟩ := cells6T g1
    obtain ⟨k0, k1, k2, k3, l0, l1, l2, l3⟩ := cells4T g0
    have C := hide (withO_calls _ seen site (g + 1) W5 (Hn.out.below hB5) (by omega))
    have G0 := hide g0
    have G2 := hide g2
    have G3 := hide g3
    have G6 := hide g6
    have Hdv := hide hdv5
    have hw5 : W0.heap.size ≤ W5.heap.size := by omega
    have hw6 : W3.heap.size < W5.heap.size := by omega
    clear g0 g1 g2 g3 g6 hdv5
    go_wp2_with fail
    refine C.out.mono ?_
    rintro e w6 ⟨sv', rfl, hown, hb6⟩
    obtain ⟨sa', sc', rfl⟩ := ownsRow_slice hown
    have g0 := keepB G0.out hb6
    have g2 := keepB G2.out hb6
    have g3 := keepB G3.out hb6
    have g6 := keepB G6.out hb6
    have hdv6 := own_below Hdv.out hb6
    have hB6 := hB5.trans (hb6.mono hB5.size)
    have hs6 := hb6.size
    clear G0 G2 G3 G6 Hdv hB5 hb6 C x0 x1 x2 x3 x4 x5 k0 k1 k2 k3 l0 l1 l2 l3
    obtain ⟨k0, k1, k2, k3, l0, l1, l2, l3⟩ := cells4T g0
    have G0 := hide g0
    have G2 := hide g2
    have G3 := hide g3
    have G6 := hide g6
    have Hdv := hide hdv6
    have Hown := hide hown
    clear g0 g2 g3 g6 hdv6 hown
    go_upto_region 7 with fail
    clear k0 k1 k2 k3 l0 l1 l2 l3
    have g0 := setAt (j := 2) G0.out (.slice sa' (withL seen site (g + 1)).length sc')
    have hoth : ∀ k, k ≠ w.heap.size → (w6.setCell ⟨w.heap.size, 2, none⟩ (.slice sa' (withL seen site (g + 1)).length sc')).heap[k]? = w6.heap[k]? := fun k hk => Below.heap_setCell _ _ _ _ hk
    have hB7 := hB6.setCell (p := ⟨w.heap.size, 2, none⟩) (Nat.le_refl _) (.slice sa' (withL seen site (g + 1)).length sc')
    have hz7 : (w6.setCell ⟨w.heap.size, 2, none⟩ (.slice sa' (withL seen site (g + 1)).length sc')).heap.size = w6.heap.size := by simp
    generalize w6.setCell ⟨w.heap.size, 2, none⟩ (.slice sa' (withL seen site (g + 1)).length sc') = W7 at *
    simp at g0
    have g2 : W7.heap[w.heap.size + 1 + 1]? = _ := (hoth (w.heap.size + 2) (by omega)).trans G2.out
    have g3 : W7.heap[w.heap.size + 1 + 1 + 1]? = _ := (hoth (w.heap.size + 3) (by omega)).trans G3.out
    have g6 := (hoth W3.heap.size (by omega)).trans G6.out
    have hdv7 := hide (ownsRow_of_heap Hdv.out fun k hk => hoth k (by have := (Hdv.out.lt k hk).1; omega))
    have hown7 := hide (ownsRow_of_heap Hown.out fun k hk => hoth k (by have := (Hown.out.lt k hk).1; omega))
    clear hoth G0 G2 G3 G6 Hdv Hown hB6
    obtain ⟨k0, k1, k2, k3, -, -, -, -⟩ := cells4T g0
    obtain ⟨x0, x1, x2, x3, x4, x5, x6, -, -, -, -, -, -, -⟩ := cells7T g6
    obtain ⟨y0, y1, y2, y3, l0, l1, l2, l3⟩ := cells4T g2
    obtain ⟨z0, z1, z2, z3, z4, z5, z6, v0, v1, v2, v3, v4, v5, v6⟩ := cells7T g3
    have G2 := hide g2
    have G3 := hide g3
    have HB7 := hide hB7
    clear g0 g2 g3 g6 hB7
    go_region
    go_wp2_with fail
    have e2 := put4T_heap G2.out (.int .i64 site) (.int .i64 (next + 1)) (.slice sa' (withL seen site (g + 1)).length sc') (.slice la ln lc)
    have hB8 := put4T_below HB7.out (show w.heap.size ≤ w.heap.size + 1 + 1 by omega) (.int .i64 site) (.int .i64 (next + 1)) (.slice sa' (withL seen site (g + 1)).length sc') (.slice la ln lc)
    have ho8 : ∀ k, k ≠ w.heap.size + 1 + 1 → (put4T W7 (w.heap.size + 1 + 1) (.int .i64 site) (.int .i64 (next + 1)) (.slice sa' (withL seen site (g + 1)).length sc') (.slice la ln lc)).heap[k]? = W7.heap[k]? := fun k hk => put4T_other k hk _ _ _ _
    obtain ⟨W8, hW8⟩ : ∃ W8, put4T W7 (w.heap.size + 1 + 1) (.int .i64 site) (.int .i64 (next + 1)) (.slice sa' (withL seen site (g + 1)).length sc') (.slice la ln lc) = W8 := ⟨_, rfl⟩
    rw [hW8] at e2 hB8 ho8
    unfold put4T at hW8
    rw [hW8]
    have e3 := put7T_heap ((ho8 (w.heap.size + 1 + 1 + 1) (by omega)).trans G3.out) (.int .i64 next) (.int .i64 ticket) (.int .i64 site) (.int .i64 (g + 1)) (.slice da dep.length dc) (.string key) (.string val)
    have hB9 := put7T_below hB8 (show w.heap.size ≤ w.heap.size + 1 + 1 + 1 by omega) (.int .i64 next) (.int .i64 ticket) (.int .i64 site) (.int .i64 (g + 1)) (.slice da dep.length dc) (.string key) (.string val)
    have ho9 : ∀ k, k ≠ w.heap.size + 1 + 1 + 1 → (put7T W8 (w.heap.size + 1 + 1 + 1) (.int .i64 next) (.int .i64 ticket) (.int .i64 site) (.int .i64 (g + 1)) (.slice da dep.length dc) (.string key) (.string val)).heap[k]? = W8.heap[k]? := fun k hk => put7T_other k hk _ _ _ _ _ _ _
    obtain ⟨W9, hW9⟩ : ∃ W9, put7T W8 (w.heap.size + 1 + 1 + 1) (.int .i64 next) (.int .i64 ticket) (.int .i64 site) (.int .i64 (g + 1)) (.slice da dep.length dc) (.string key) (.string val) = W9 := ⟨_, rfl⟩
    rw [hW9] at e3 hB9 ho9
    unfold put7T at hW9
    rw [hW9]
    have e2' : W9.drew.heap[w.heap.size + 1 + 1]? = _ := (ho9 (w.heap.size + 1 + 1) (by omega)).trans e2
    have e3' : W9.drew.heap[w.heap.size + 1 + 1 + 1]? = _ := e3
    obtain ⟨k0, k1, k2, k3, -⟩ := cells4T e2'
    obtain ⟨x0, x1, x2, x3, x4, x5, x6, -⟩ := cells7T e3'
    refine bodyPost_ret (v := .tuple #[.agg #[.int .i64 site, .int .i64 (next + 1), .slice sa' (withL seen site (g + 1)).length sc', .slice la ln lc], .agg #[.int .i64 next, .int .i64 ticket, .int .i64 site, .int .i64 (g + 1), .slice da dep.length dc, .string key, .string val]]) (by simp [results, Try.f36, go_sem, k0, k1, k2, k3, x0, x1, x2, x3, x4, x5, x6]) rfl ⟨_, _, rfl, ?_, ?_, hB9.drew⟩
    · exact ownsRow_low (ownsRow_of_heap hown7.out fun k hk => by have := (hown7.out.lt k hk).1; exact (ho9 k (by omega)).trans (ho8 k (by omega))) (by omega)
    · exact ownsRow_low (ownsRow_of_heap hdv7.out fun k hk => by have := (hdv7.out.lt k hk).1; exact (ho9 k (by omega)).trans (ho8 k (by omega))) (by omega)

end Go.Proofs.Ytdkpbfigjdmfpaa

/- Sets whose keys are structs of two integers: looked up, written. Own work; no statement. -/
set_option linter.unusedSimpArgs false
set_option linter.unusedVariables false
namespace Go.Proofs.Ytdkpbfigjdmfpaa
open Go.RowKit Go.Shelf

def keyV (k : Int × Int) : Value := .agg #[.int .i64 k.1, .int .i64 k.2]

theorem name_fields : ∃ f g : Field, (Try.prog.fieldsOf 92) = #[f, g] ∧ f.name ≠ "_" ∧ g.name ≠ "_" ∧ f.type = 3 ∧ g.type = 3 ∧ f.offset = 0 ∧ g.offset = 1 := by
  have hf : (Try.prog.fieldsOf 92).toList.map (fun f => (f.name == "_", f.type, f.offset)) = [(false, 3, 0), (false, 3, 1)] := by kernel_rfl
  generalize Try.prog.fieldsOf 92 = F at *
  obtain ⟨L⟩ := F
  cases L with
  | nil => simp at hf
  | cons f L =>
    cases L with
    | nil => simp at hf
    | cons g L =>
      cases L with
      | cons _ _ => simp at hf
      | nil =>
        simp only [List.map_cons, List.map_nil, List.cons.injEq, Prod.mk.injEq, and_true] at hf
        obtain ⟨⟨n1, t1, o1⟩, n2, t2, o2⟩ := hf
        exact ⟨f, g, rfl, by simpa using n1, by simpa using n2, t1, t2, o1, o2⟩
theorem name_under : Try.prog.underlying 92 = some (.struct (Try.prog.fieldsOf 92)) := by kernel_rfl
theorem int_part (w : World) (xs : Array Value) (x : Value) (off : Nat) (h : xs[off]? = some x) : (part 3 xs off).run Try.prog w = .ok x w := run_part_plain w (show Try.prog.plainKey 3 = true by kernel_rfl) h

theorem name_part (w : World) (a b : Int) : (part 3 #[.int .i64 a, .int .i64 b] 0).run Try.prog w = .ok (.int .i64 a) w ∧ (part 3 #[.int .i64 a, .int .i64 b] 1).run Try.prog w = .ok (.int .i64 b) w := ⟨int_part w _ _ 0 rfl, int_part w _ _ 1 rfl⟩

theorem name_eq (w : World) (x y : Int × Int) : (Op.equal 92 (keyV x) (keyV y)).run Try.prog w = .ok (decide (x = y)) w := by
  obtain ⟨a, b⟩ := x
  obtain ⟨c, d⟩ := y
  show (Op.equalIn (9999 + 1) 92 (.agg #[.int .i64 a, .int .i64 b]) (.agg #[.int .i64 c, .int .i64 d])).run Try.prog w = _
  rw [run_equalIn_agg w 9999 92 _ _ name_under (by kernel_rfl)]
  obtain ⟨f, g, hfs, m1, m2, t1, t2, o1, o2⟩ := name_fields
  rw [hfs]
  have e1 := fun (w : World) (a b : Int) => run_equalIn_int w 9998 3 .i64 .i64 a b Try.underlying3
  have e2 := fun w => (name_part w a b).1
  have e3 := fun w => (name_part w a b).2
  have e4 := fun w => (name_part w c d).1
  have e5 := fun w => (name_part w c d).2
  simp only [Op.eqFields, if_pos m1, if_pos m2, t1, t2, o1, o2, Sem.run_bind, e2, e3, e4, e5, Result.andThen_ok, show ∀ (w : World) (a b : Int), (Op.equalIn 9999 3 (.int .i64 a) (.int .i64 b)).run Try.prog w = _ from e1, Sem.run_ite, Sem.run_pure]
  by_cases h1 : a = c
  · by_cases h2 : b = d <;> simp [h1, h2]
  · simp [h1]

theorem int_check (em : Bool) (w : World) (n : Nat) (a : Int) : (Instr.checkKey em (n + 1) 3 (.int .i64 a)).run Try.prog w = .ok () w := by
  unfold Instr.checkKey
  simp [run_underlying Try.underlying3]
theorem name_check (em : Bool) (w : World) (x : Int × Int) : (Instr.checkKey em 10000 92 (keyV x)).run Try.prog w = .ok () w := by
  obtain ⟨a, b⟩ := x
  obtain ⟨f, g, hfs, m1, m2, t1, t2, o1, o2⟩ := name_fields
  have hu := name_under
  rw [hfs] at hu
  show (Instr.checkKey em (9998 + 1 + 1) 92 (.agg #[.int .i64 a, .int .i64 b])).run Try.prog w = _
  have c1 := fun (w : World) (a : Int) => int_check em w 9998 a
  unfold Instr.checkKey
  simp only [Sem.run_bind, run_underlying hu, Result.andThen_ok]
  have e2 := fun w => (name_part w a b).1
  have e3 := fun w => (name_part w a b).2
  simp [m1, m2, t1, t2, o1, o2, e2, e3, c1]

/-- At block b there lies a set of these keys. -/
def SetAt (w : World) (b : Nat) (L : List (Int × Int)) : Prop :=
  ∃ (es : Array MapEntry) (clock : Nat), w.heap[b]? = some (.map es clock) ∧ es.toList.map (fun e => (e.key, e.val)) = L.map fun x => (keyV x, Value.agg #[])
theorem SetAt.keep {w w' : World} {b : Nat} {L : List (Int × Int)} (h : SetAt w b L) (hk : w'.heap[b]? = w.heap[b]?) : SetAt w' b L := by
  obtain ⟨es, clock, h1, h2⟩ := h
  exact ⟨es, clock, hk.trans h1, h2⟩
theorem SetAt.lt {w : World} {b : Nat} {L : List (Int × Int)} (h : SetAt w b L) : b < w.heap.size := by
  obtain ⟨es, clock, h1, h2⟩ := h
  exact (Array.getElem?_eq_some_iff.1 h1).1
theorem SetAt.not_cells {w : World} {b : Nat} {L : List (Int × Int)} (h : SetAt w b L) {c : Array Value} {t : TypeId} {f : Nat × Nat} : w.heap[b]? ≠ some (.cells c t f) := fun e => by
  obtain ⟨es, clock, h1, h2⟩ := h
  rw [h1] at e
  cases e

theorem name_find (k : Int × Int) (w : World) : ∀ (L : List (Int × Int)) (es : List MapEntry) (i : Nat), es.map (fun e => (e.key, e.val)) = L.map (fun x => (keyV x, Value.agg #[])) →
    (k ∈ L ∧ ∃ j, (Instr.findAsking 92 (keyV k) es i).run Try.prog w = .ok (some (j, .agg #[])) w) ∨ (k ∉ L ∧ (Instr.findAsking 92 (keyV k) es i).run Try.prog w = .ok none w)
  | [], [], i, _ => .inr ⟨by simp, rfl⟩
  | [], e :: es, i, h => by simp at h
  | x :: L, [], i, h => by simp at h
  | x :: L, e :: es, i, h => by
    simp only [List.map_cons, List.cons.injEq, Prod.mk.injEq] at h
    obtain ⟨⟨h1, h2⟩, h3⟩ := h
    by_cases hx : k = x
    · refine .inl ⟨by simp [hx], i, ?_⟩
      simp only [Instr.findAsking, Sem.run_bind, h1, h2, name_eq, Result.andThen_ok, hx]
      simp
    · have hrun : (Instr.findAsking 92 (keyV k) (e :: es) i).run Try.prog w = (Instr.findAsking 92 (keyV k) es (i + 1)).run Try.prog w := by
        simp only [Instr.findAsking, Sem.run_bind, h1, name_eq, Result.andThen_ok]
        simp [hx]
      rw [hrun]
      rcases name_find k w L es (i + 1) h3 with ⟨a, b⟩ | ⟨a, b⟩
      · exact .inl ⟨List.mem_cons_of_mem _ a, b⟩
      · exact .inr ⟨by simp [hx, a], b⟩

theorem SetAt.look {w : World} {b : Nat} {L : List (Int × Int)} (h : SetAt w b L) (k : Int × Int) (w' : World) (hw : w'.heap[b]? = w.heap[b]?) :
    (Instr.lookup 90 (.map (some b)) (.agg #[.int .i64 k.1, .int .i64 k.2]) true).run Try.prog w' = .ok (.tuple #[.agg #[], .bool (decide (k ∈ L))]) w' := by
  obtain ⟨es, clock, h1, h2⟩ := h
  rw [h1] at hw
  have hz : (zeroValue 93).run Try.prog w' = .ok (.agg #[]) w' := rfl
  show (Instr.lookup 90 (.map (some b)) (keyV k) true).run Try.prog w' = _
  have hf := run_findKey_eq (P := Try.prog) w' (k := 92) (by rw [name_under]) (keyV k) es.toList
  rcases name_find k w' L es.toList 0 h2 with ⟨h3, j, h4⟩ | ⟨h3, h4⟩
  · rw [h4] at hf
    simp [Instr.lookup, run_underlying Try.underlying90, MapKept.run_getObj_map hw, name_check, hf, Result.andThen, h3]
  · rw [h4] at hf
    simp [Instr.lookup, run_underlying Try.underlying90, MapKept.run_getObj_map hw, name_check, hf, hz, Result.andThen, h3]

theorem SetAt.put {w : World} {b : Nat} {L : List (Int × Int)} (h : SetAt w b L) (k : Int × Int) (hk : k ∉ L) :
    ∃ w', (Instr.mapUpdate 90 (.map (some b)) (.agg #[.int .i64 k.1, .int .i64 k.2]) (.agg #[])).run Try.prog w = .ok () w' ∧ SetAt w' b (L ++ [k]) ∧ Touch (fun x => x = b) w w' := by
  obtain ⟨es, clock, h1, h2⟩ := h
  have hlt := (Array.getElem?_eq_some_iff.1 h1).1
  have hf := run_findKey_eq (P := Try.prog) w (k := 92) (by rw [name_under]) (keyV k) es.toList
  rcases name_find k w L es.toList 0 h2 with ⟨h3, -⟩ | ⟨h3, h4⟩
  · exact absurd h3 hk
  · rw [h4] at hf
    refine ⟨w.putObj b (.map (es.push ⟨keyV k, .agg #[], clock⟩) (clock + 1)), ?_, ⟨_, _, World.putObj_heap_same hlt, ?_⟩, ⟨rfl, rfl, rfl, by simp [World.putObj], fun k _ h => World.putObj_heap_other h⟩⟩
    · show (Instr.mapUpdate 90 (.map (some b)) (keyV k) (.agg #[])).run Try.prog w = _
      simp [Instr.mapUpdate, run_underlying Try.underlying90, MapKept.run_getObj_map h1, name_check, hf, MapKept.run_setObj_map _ h1, Result.andThen, World.putObj]
    · simp [h2]

theorem SetAt.touch {w w' : World} {S : Nat → Prop} {b : Nat} {L : List (Int × Int)} (h : SetAt w b L) (t : Touch S w w') (hS : ¬ S b) : SetAt w' b L := h.keep (t.block b h.lt hS)
theorem SetAt.below {w w' : World} {b : Nat} {L : List (Int × Int)} (h : SetAt w b L) (t : RowKit.Below w.heap.size w w') : SetAt w' b L := h.keep (t.block b h.lt)

end Go.Proofs.Ytdkpbfigjdmfpaa

/- rec's Of: the records of a site, with their places. Own work; no statement. -/
set_option linter.unusedSimpArgs false
set_option linter.unusedVariables false
namespace Go.Proofs.Ytdkpbfigjdmfpaa
open Go.RowKit Go.Sort
theorem placedTo_skip {l : List RecD} {site : Int} {k : Nat} (hk : k < l.length) (h : ¬ l[k].site = site) : placedTo l site (k + 1) = placedTo l site k := by
  simp only [placedTo, List.getElem?_eq_getElem hk, if_neg h, List.append_nil]
theorem placedTo_take {l : List RecD} {site : Int} {k : Nat} (hk : k < l.length) (h : l[k].site = site) : placedTo l site (k + 1) = placedTo l site k ++ [((k : Int), l[k])] := by
  simp only [placedTo, List.getElem?_eq_getElem hk, if_pos h]
theorem placedTo_length (l : List RecD) (site : Int) : ∀ k, (placedTo l site k).length ≤ k
  | 0 => by simp [placedTo]
  | k + 1 => by
    have := placedTo_length l site k
    simp only [placedTo, List.length_append]
    split
    · split <;> simp <;> omega
    · simp; omega

theorem cells_new {W : World} {c : Array Value} {e : TypeId} {g : Nat} (h : g = W.heap.size) : ∀ j u, c.toList[j]? = some u → (W.alloc (.cells c e)).cell? ((⟨g, 0, none⟩ : Addr).add j) = some u := by
  subst h
  intro j u hj
  rw [Addr.add_lit, Nat.zero_add, World.cell?_alloc_at _ _ _ _ rfl]
  simpa using hj

theorem six_one {p : Pl} {a : Option Addr} {n c : Nat} (h : p.vd = .slice a n c) : ∀ u ∈ p.cells, u.oneCell' = true := by
  intro u hu
  simp only [Pl.cells, h, List.mem_cons, List.not_mem_nil, or_false] at hu
  rcases hu with rfl | rfl | rfl | rfl | rfl | rfl <;> rfl

end Go.Proofs.Ytdkpbfigjdmfpaa

/- token's late: what of the rest may still come. Own work; no statement. -/
set_option linter.unusedSimpArgs false
set_option linter.unusedVariables false
namespace Go.Proofs.Ytdkpbfigjdmfpaa
open Go.RowKit Go.Shelf Go.Sort

/-- One draft more is looked at: what stays, and the keys of those. -/
def stepK (own : Int) (s : List Int) (a : List DrD × List (Int × Int)) (d : DrD) : List DrD × List (Int × Int) :=
  if d.r.site = own then (if d.r.seq = 0 then (a.1 ++ [d], a.2) else a)
  else if (d.r.site, d.r.seq) ∉ a.2 ∧ geti s d.r.site < d.r.seq then (a.1 ++ [d], a.2 ++ [(d.r.site, d.r.seq)]) else a
theorem fold_late (own : Int) (s : List Int) : ∀ (l : List DrD) (a : List DrD × List (Int × Int)) (e : List DrD), (∀ i q, i ≠ own → geti s i < q → ((i, q) ∈ a.2 ↔ ∃ x ∈ e, x.r.site = i ∧ x.r.seq = q)) →
    (l.foldl (stepK own s) a).1 = a.1 ++ lateT own s e l
  | [], a, e, _ => by simp [lateT]
  | d :: l, a, e, h => by
    rw [List.foldl_cons]
    by_cases h1 : d.r.site = own
    · have h' : ∀ K : List (Int × Int), (∀ i q, i ≠ own → geti s i < q → ((i, q) ∈ K ↔ ∃ x ∈ e, x.r.site = i ∧ x.r.seq = q)) → ∀ i q, i ≠ own → geti s i < q → ((i, q) ∈ K ↔ ∃ x ∈ e ++ [d], x.r.site = i ∧ x.r.seq = q) := fun K h i q hi hq => by
        rw [h i q hi hq]
        constructor
        · rintro ⟨x, hx, e⟩
          exact ⟨x, List.mem_append.2 (.inl hx), e⟩
        · rintro ⟨x, hx, e1, e2⟩
          rcases List.mem_append.1 hx with hx | hx
          · exact ⟨x, hx, e1, e2⟩
          · rw [List.mem_singleton.1 hx] at e1
            exact absurd (e1.symm.trans h1) hi
      by_cases h2 : d.r.seq = 0
      · have e1 : stepK own s a d = (a.1 ++ [d], a.2) := by unfold stepK; rw [if_pos h1, if_pos h2]
        have e2 : goneT own s e d = false := by unfold goneT; rw [if_pos h1]; simpa using h2
        rw [e1, fold_late own s l (a.1 ++ [d], a.2) (e ++ [d]) (h' a.2 h), lateT, e2]
        simp
      · have e1 : stepK own s a d = a := by unfold stepK; rw [if_pos h1, if_neg h2]
        have e2 : goneT own s e d = true := by unfold goneT; rw [if_pos h1]; simpa using h2
        rw [e1, fold_late own s l a (e ++ [d]) (h' a.2 h), lateT, e2]
        simp
    · by_cases h2 : geti s d.r.site < d.r.seq
      · by_cases h3 : (d.r.site, d.r.seq) ∈ a.2
        · have e1 : stepK own s a d = a := by unfold stepK; rw [if_neg h1, if_neg (fun h => h.1 h3)]
          obtain ⟨x, hx, e3, e4⟩ := (h _ _ h1 h2).1 h3
          have e2 : goneT own s e d = true := by
            unfold goneT
            rw [if_neg h1]
            simp only [Bool.or_eq_true, decide_eq_true_eq, List.any_eq_true, Bool.and_eq_true]
            exact .inr ⟨x, hx, e3, e4⟩
          rw [e1, fold_late own s l _ (e ++ [d]) (fun i q hi hq => ?_), lateT, e2]
          · simp
          · rw [h i q hi hq]
            constructor
            · rintro ⟨x, hx, e⟩
              exact ⟨x, List.mem_append.2 (.inl hx), e⟩
            · rintro ⟨y, hy, e5, e6⟩
              rcases List.mem_append.1 hy with hy | hy
              · exact ⟨y, hy, e5, e6⟩
              · rw [List.mem_singleton.1 hy] at e5 e6
                exact ⟨x, hx, e3.trans e5, e4.trans e6⟩
        · have e1 : stepK own s a d = (a.1 ++ [d], a.2 ++ [(d.r.site, d.r.seq)]) := by unfold stepK; rw [if_neg h1, if_pos ⟨h3, h2⟩]
          have e2 : goneT own s e d = false := by
            unfold goneT
            rw [if_neg h1]
            simp only [Bool.or_eq_false_iff, decide_eq_false_iff_not, List.any_eq_false, Bool.and_eq_true, decide_eq_true_eq]
            exact ⟨by omega, fun x hx e => h3 ((h _ _ h1 h2).2 ⟨x, hx, e⟩)⟩
          rw [e1, fold_late own s l _ (e ++ [d]) (fun i q hi hq => ?_), lateT, e2]
          · simp
          · dsimp only
            rw [List.mem_append, h i q hi hq]
            constructor
            · rintro (⟨x, hx, e⟩ | hx)
              · exact ⟨x, List.mem_append.2 (.inl hx), e⟩
              · have := List.mem_singleton.1 hx
                simp only [Prod.mk.injEq] at this
                exact ⟨d, by simp, this.1.symm, this.2.symm⟩
            · rintro ⟨x, hx, e3, e4⟩
              rcases List.mem_append.1 hx with hx | hx
              · exact .inl ⟨x, hx, e3, e4⟩
              · rw [List.mem_singleton.1 hx] at e3 e4
                exact .inr (by simp [e3, e4])
      · have e1 : stepK own s a d = a := by unfold stepK; rw [if_neg h1, if_neg (fun h => h2 h.2)]
        have e2 : goneT own s e d = true := by
          unfold goneT
          rw [if_neg h1]
          simp only [Bool.or_eq_true, decide_eq_true_eq]
          exact .inl (by omega)
        rw [e1, fold_late own s l _ (e ++ [d]) (fun i q hi hq => ?_), lateT, e2]
        · simp
        · rw [h i q hi hq]
          constructor
          · rintro ⟨x, hx, e⟩
            exact ⟨x, List.mem_append.2 (.inl hx), e⟩
          · rintro ⟨x, hx, e3, e4⟩
            rcases List.mem_append.1 hx with hx | hx
            · exact ⟨x, hx, e3, e4⟩
            · rw [List.mem_singleton.1 hx] at e3 e4
              rw [e3, e4] at h2
              exact absurd hq h2
theorem fold_lateT (own : Int) (s : List Int) (l : List DrD) : (l.foldl (stepK own s) ([], [])).1 = lateT own s [] l := by
  rw [fold_late own s l ([], []) [] (fun i q _ _ => by simp)]
  simp
theorem fold_le (own : Int) (s : List Int) : ∀ (l : List DrD) (a : List DrD × List (Int × Int)), (l.foldl (stepK own s) a).1.length ≤ a.1.length + l.length
  | [], a => by simp
  | d :: l, a => by
    rw [List.foldl_cons]
    have := fold_le own s l (stepK own s a d)
    have h2 : (stepK own s a d).1.length ≤ a.1.length + 1 := by
      unfold stepK
      split
      · split <;> simp
      · split <;> simp
    simp only [List.length_cons]
    omega

/-- What late has under way: the token in its block, the keys, the row of those that stay. -/
structure LateSt (w wr : World) (tok : Array Value) (K : List (Int × Int)) (v : Value) (ol : List Dv) : Prop where
  below : RowKit.Below w.heap.size w wr
  size : w.heap.size + 2 ≤ wr.heap.size
  tok : wr.heap[w.heap.size]? = some (.cells tok 26 (0, 0))
  set : SetAt wr (w.heap.size + 1) K
  row : wr.ownsRow (w.heap.size + 2) 41 6 v ol.length (ol.flatMap Dv.cells)
  deps : ∀ q ∈ ol, wr.ownsRow (w.heap.size + 2) 3 1 q.vd q.d.r.dep.length (q.d.r.dep.map (Value.int .i64))
theorem LateSt.new {w wr w' : World} {tok : Array Value} {K : List (Int × Int)} {v : Value} {ol : List Dv} (h : LateSt w wr tok K v ol) (hb : RowKit.Below wr.heap.size wr w') : LateSt w w' tok K v ol :=
  ⟨h.below.trans (hb.mono h.below.size), by have := hb.size; have := h.size; omega, keepB h.tok hb, h.set.below hb, own_below h.row hb, fun q hq => own_below (h.deps q hq) hb⟩
theorem LateSt.put {w wr w' : World} {tok : Array Value} {K K' : List (Int × Int)} {v : Value} {ol : List Dv} (h : LateSt w wr tok K v ol) (hs : SetAt w' (w.heap.size + 1) K') (ht : Touch (fun k => k = w.heap.size + 1) wr w') : LateSt w w' tok K' v ol := by
  have hz := h.size
  refine ⟨h.below.trans (ht.below h.below.size fun k _ e => by omega), by have := ht.size; omega, (ht.block _ (by omega) (by omega)).trans h.tok, hs, ownsRow_of_heap h.row fun k e => ht.block k (h.row.lt k e).2 (by have := (h.row.lt k e).1; omega), fun q hq => ownsRow_of_heap (h.deps q hq) fun k e => ht.block k ((h.deps q hq).lt k e).2 (by have := ((h.deps q hq).lt k e).1; omega)⟩
theorem LateSt.add {w wr w2 : World} {tok : Array Value} {K : List (Int × Int)} {v v1 : Value} {ol : List Dv} {q : Dv} {o : Obj} (h : LateSt w wr tok K v ol) (hd : wr.ownsRow (w.heap.size + 2) 3 1 q.vd q.d.r.dep.length (q.d.r.dep.map (Value.int .i64)))
    (hown : w2.ownsRow (w.heap.size + 2) 41 6 v1 (ol.length + 1) (ol.flatMap Dv.cells ++ q.cells)) (hgrow : (wr.alloc o).grownBy w2 v.ownBlock) : LateSt w w2 tok K v1 (ol ++ [q]) := by
  have hz := h.size
  have hks : ∀ k, k < wr.heap.size → v.ownBlock ≠ some k → w2.heap[k]? = wr.heap[k]? := fun k hk hn => (hgrow.block k (by simp; omega) (fun e => hn e.symm)).trans (Below.heap_alloc _ _ _ hk)
  refine ⟨(h.below.alloc (by omega) o).grown hgrow (by simp; omega) (fun j hj => by have := (h.row.lt j hj).1; omega), by have := hgrow.size; simp at this; omega, ?_, ?_, by rw [List.length_append, List.flatMap_append]; simpa using hown, fun x hx => ?_⟩
  · exact (hks _ (by omega) (fun e => by have := (h.row.lt _ e).1; omega)).trans h.tok
  · exact h.set.keep (hks _ (by omega) (fun e => by have := (h.row.lt _ e).1; omega))
  · have keep : ∀ {v n xs}, wr.ownsRow (w.heap.size + 2) 3 1 v n xs → w2.ownsRow (w.heap.size + 2) 3 1 v n xs := fun hr =>
      ownsRow_of_heap hr fun k hk => hks k (hr.lt k hk).2 (rows_apart (by decide) hr h.row k hk)
    rcases List.mem_append.1 hx with hx | hx
    · exact keep (h.deps x hx)
    · rw [List.mem_singleton.1 hx]
      exact keep hd

end Go.Proofs.Ytdkpbfigjdmfpaa

/- token's late, walked. Own work; no statement. -/
set_option linter.unusedSimpArgs false
set_option linter.unusedVariables false
namespace Go.Proofs.Ytdkpbfigjdmfpaa
open Go.RowKit Go.Shelf Go.Sort

set_option maxHeartbeats 4000000 in
set_option maxRecDepth 100000 in
theorem late_calls (own next : Int) (seen : List Int) (sv : Value) (la : Option Addr) (ln lc : Nat) (lv : Value) (ql : List Dv) (w : World) (hn : IsNums .i64 w sv seen) (hv : RdD w lv ql) (hq : ∀ q ∈ ql, IsNums .i64 w q.vd q.d.r.dep ∧ q.d.r.dep.length ≤ 1048576) (hs : SeenOk seen) (hl : ql.length ≤ 1048576) :
    Calls Try.prog 38 #[.agg #[.int .i64 own, .int .i64 next, sv, .slice la ln lc], lv] w fun e w' => ∃ (v' : Value) (ol : List Dv), e = .returned v' ∧ ol.map (·.d) = lateT own seen [] (ql.map (·.d)) ∧
      w'.ownsRow w.heap.size 41 6 v' ol.length (ol.flatMap Dv.cells) ∧ (∀ q ∈ ol, w'.ownsRow w.heap.size 3 1 q.vd q.d.r.dep.length (q.d.r.dep.map (Value.int .i64))) ∧ RowKit.Below w.heap.size w w' := by
  obtain ⟨i0, hi0, hz0, hz1, hz2⟩ := info_parts Try.info41
  have hmk := fun w => run_makeMap (P := Try.prog) (w := w) 90
  obtain ⟨sa, sc, rfl⟩ := hn.form
  obtain ⟨a, cap, rfl, -, -, hat⟩ := id hv
  have hlen := hs.len
  have Hat := hide hat
  have Hv := hide hv
  have Hn := hide hn
  have Hq := hide hq
  have Hs := hide hs
  clear hat hv hn hq hs
  have hnew := World.alloc_heap_new w (.cells #[.int .i64 own, .int .i64 next, .slice sa seen.length sc, .slice la ln lc] 26)
  have hbox := box_below w (.cells #[.int .i64 own, .int .i64 next, .slice sa seen.length sc, .slice la ln lc] 26)
  obtain ⟨W0, hW0⟩ : ∃ W0, w.alloc (.cells #[.int .i64 own, .int .i64 next, .slice sa seen.length sc, .slice la ln lc] 26) = W0 := ⟨_, rfl⟩
  have hsz : W0.heap.size = w.heap.size + 1 := by rw [← hW0]; simp
  rw [hW0] at hnew hbox
  have hst : LateSt w (W0.alloc (.map #[] 0)) #[.int .i64 own, .int .i64 next, .slice sa seen.length sc, .slice la ln lc] [] (.slice none 0 0) [] := by
    refine ⟨hbox.alloc hbox.size _, by simp [hsz], (Below.heap_alloc _ _ _ (by omega)).trans hnew, ⟨#[], 0, ?_, rfl⟩, World.ownsRow_nil _ _ _ _, fun q hq => by cases hq⟩
    rw [← hsz]
    exact World.alloc_heap_new W0 _
  have Hst := hide hst
  have HW := hide hW0
  clear hst hW0 hnew
  go_enter Try.func38, Try.ntmps38
  go_wp2_with fail
  rw [HW.out]
  go_loopw [6, 15] (fun v i wr => ∃ (k : Nat) (ol : List Dv) (K : List (Int × Int)), k ≤ ql.length ∧ i = .int .i64 (k : Int) ∧ ((ql.map (·.d)).take k).foldl (stepK own seen) ([], []) = (ol.map (·.d), K) ∧ LateSt w wr #[.int .i64 own, .int .i64 next, .slice sa seen.length sc, .slice la ln lc] K v ol) (fun _ i _ => ql.length - (intOf i).toNat)
  case atStart => exact ⟨0, [], [], Nat.zero_le _, rfl, rfl, Hst.out⟩
  case round =>
    clear Hst HW hbox hsz
    obtain ⟨k, ol, K, hk, rfl, hfold, hst⟩ := hrel
    by_cases hlt : k < ql.length
    · have hltI : (k : Int) < (ql.length : Int) := by omega
      obtain ⟨b, o, rfl, hc⟩ := Hat.out k hlt
      have hqk := Hq.out ql[k] (List.getElem_mem hlt)
      have htk : (ql.map (·.d)).take (k + 1) = (ql.map (·.d)).take k ++ [ql[k].d] := by
        rw [List.take_succ_eq_append_getElem (by simpa using hlt)]
        simp
      have hole := fold_le own seen ((ql.map (·.d)).take k) ([], [])
      rw [hfold] at hole
      have hol2 : ol.length ≤ k := by
        simp only [List.length_map, List.length_take, List.length_nil, Nat.zero_add] at hole
        omega
      clear hole
      have hfold2 : ((ql.map (·.d)).take (k + 1)).foldl (stepK own seen) ([], []) = stepK own seen (ol.map (·.d), K) ql[k].d := by
        rw [htk, List.foldl_append, hfold]
        rfl
      clear htk
      obtain ⟨⟨⟨ticket, ⟨site, seq, dep, key, val⟩⟩, vd⟩, hx⟩ : ∃ x, ql[k] = x := ⟨_, rfl⟩
      rw [hx] at hc hqk hfold2
      dsimp only at hqk hfold2
      obtain ⟨hnk, hdk⟩ := hqk
      obtain ⟨da, dc, rfl⟩ := hnk.form
      have hblt : b < w.heap.size := by
        have := hc 0 (by omega)
        exact World.block_lt_of_cell? w _ (this.trans (by simp [Dv.cells]; rfl))
      have cc : ∀ j, j < 6 → wr.cell? ⟨b, o + k * 6 + j, none⟩ = _ := fun j hj => (hst.below.cell (p := ⟨b, o + k * 6 + j, none⟩) hblt).trans (hc j hj)
      have c0 := cc 0 (by omega)
      have c1 := cc 1 (by omega)
      have c2 := cc 2 (by omega)
      have c3 := cc 3 (by omega)
      have c4 := cc 4 (by omega)
      have c5 := cc 5 (by omega)
      simp only [Dv.cells, List.getElem?_cons_zero, List.getElem?_cons_succ, Nat.add_zero] at c0 c1 c2 c3 c4 c5
      have Hnk := hide hnk
      have Hfold := hide hfold2
      have hbr : b < wr.heap.size := by have := hst.below.size; omega
      clear hx hc cc hfold hfold2 hnk
      obtain ⟨t0, t1, t2, t3, -, -, -, -⟩ := cells4T hst.tok
      have hst1 := hst.new (box_below wr (.cells #[.int .i64 ticket, .int .i64 site, .int .i64 seq, .slice da dep.length dc, .string key, .string val] 41))
      have hd1 := World.alloc_heap_new wr (.cells #[.int .i64 ticket, .int .i64 site, .int .i64 seq, .slice da dep.length dc, .string key, .string val] 41)
      have Hst1 := hide hst1
      have Hd1 := hide hd1
      have Hst := hide hst
      clear hst1 hd1 hst
      obtain ⟨ua, uc, rfl⟩ := ownsRow_slice Hst.out.row
      clear hblt
      go_upto_region 6 with fail
      have hzr := Hst.out.size
      clear c0 c1 c2 c3 c4 c5 t0 t1 t2 t3 Hst Hat
      have hbx := box_below wr (.cells #[.int .i64 ticket, .int .i64 site, .int .i64 seq, .slice da dep.length dc, .string key, .string val] 41)
      generalize wr.alloc (.cells #[.int .i64 ticket, .int .i64 site, .int .i64 seq, .slice da dep.length dc, .string key, .string val] 41) = W1 at *
      obtain ⟨t0, t1, t2, t3, -, -, -, -⟩ := cells4T Hst1.out.tok
      obtain ⟨d0, d1, d2, d3, d4, d5, -⟩ := cells6T Hd1.out
      by_cases hso : site = own
      · have hsb : (site == own) = true := by simpa using hso
        by_cases hq0 : seq = 0
        · have hqb : (seq == 0) = true := by simpa using hq0
          have hF := hide (Hfold.out.trans (show _ = ((ol.map (·.d)) ++ [⟨ticket, ⟨site, seq, dep, key, val⟩⟩], K) by unfold stepK; rw [if_pos hso, if_pos hq0]))
          clear Hfold hso hq0
          go_wp2_with (first | (go_at_call 46; refine (tokCopied_calls _ ⟨ticket, ⟨site, seq, dep, key, val⟩⟩ W1 ⟨da, dc, rfl, Hnk.out.below Hst1.out.below⟩ (by dsimp only; omega)).mono ?_; rintro e W2 ⟨v2, rfl, ⟨dv2, rfl, hdv2⟩, hb2⟩; obtain ⟨va, vc, rfl⟩ := ownsRow_slice hdv2; dsimp only at hdv2; have Hst2 := hide (Hst1.out.new hb2); have Hdv2 := hide (ownsRow_low hdv2 (by have := Hst1.out.size; omega : w.heap.size + 2 ≤ W1.heap.size)); have hz2' := Hst2.out.size; clear hdv2 hb2) | (at_builtin; refine wpList_append_own _ rfl _ _ 24 rfl (w.heap.size + 2) 41 i0 _ 6 80 Try.underlying24 hi0 hz0 hz1 hz2 rfl (by decide) _ _ _ rfl (World.ownsRow.alloc Hst2.out.row _) ⟨_, 0, none⟩ 1 1 (Dv.cells ⟨⟨ticket, ⟨site, seq, dep, key, val⟩⟩, .slice va dep.length vc⟩) rfl rfl (cells_new rfl) (one6 rfl) (by unfold maxLen; omega) (by omega) (by simp; omega) ?_; intro v3 w3 hown3 hgrow3 _; have Hst3 := hide (Hst2.out.add Hdv2.out hown3 hgrow3); obtain ⟨g3, c3, rfl⟩ := ownsRow_succ hown3))
          exact ⟨⟨k + 1, ol ++ [⟨⟨ticket, ⟨site, seq, dep, key, val⟩⟩, .slice va dep.length vc⟩], K, by omega, by go_num, by rw [hF.out]; simp, Hst3.out⟩, by simp [intOf]; omega⟩
        · have hqb : (seq == 0) = false := by simpa using hq0
          have hF := hide (Hfold.out.trans (show _ = ((ol.map (·.d)), K) by unfold stepK; rw [if_pos hso, if_neg hq0]))
          clear Hfold hso hq0
          go_wp2_with fail
          exact ⟨⟨k + 1, ol, K, by omega, by go_num, hF.out, Hst1.out⟩, by simp [intOf]; omega⟩
      · have hsb : (site == own) = false := by simpa using hso
        go_upto_region 10 with fail
        clear d0 d1 d2 d3 d4 d5 t0 t1 t2 t3
        have hbx2 := box_below W1 (.cells #[.int .i64 site, .int .i64 seq] 92)
        have hn2 := World.alloc_heap_new W1 (.cells #[.int .i64 site, .int .i64 seq] 92)
        have hzb := hbx2.size
        have HW1 := hide (show W1.heap.size < (W1.alloc (.cells #[.int .i64 site, .int .i64 seq] 92)).heap.size by simp)
        generalize hWn : W1.alloc (.cells #[.int .i64 site, .int .i64 seq] 92) = Wn at *
        have HWn := hide hWn
        clear hWn
        have hstn := Hst1.out.new hbx2
        have hlk := hstn.set.look (site, seq) Wn rfl
        dsimp only at hlk
        obtain ⟨n0, n1, -, -⟩ := cells2T hn2
        have Hdn := hide (keepB Hd1.out hbx2)
        have Hnn := hide hn2
        have Hstn := hide hstn
        clear hn2 hstn hbx2 Hst1 Hd1 hbx
        cases htw : decide ((site, seq) ∈ K) with
        | true =>
          rw [htw] at hlk
          have hF := hide (Hfold.out.trans (show _ = ((ol.map (·.d)), K) by unfold stepK; rw [if_neg hso, if_neg (fun h => h.1 (by simpa using htw))]))
          clear Hfold hso htw
          go_upto_region 11 with fail
          have hb3 := box_below Wn (.cells #[] 93)
          have Hst3 := hide (Hstn.out.new hb3)
          clear hlk n0 n1
          generalize Wn.alloc (.cells #[] 93) = W3 at *
          go_quiet (fail)
          go_wp2_with fail
          exact ⟨⟨k + 1, ol, K, by omega, by go_num, hF.out, Hst3.out.new (drewsB W3 nq)⟩, by simp [intOf]; omega⟩
        | false =>
          rw [htw] at hlk
          have hnot : (site, seq) ∉ K := by simpa using htw
          have Hnot := hide hnot
          clear hnot htw
          go_upto_region 11 with fail
          have hb3 := box_below Wn (.cells #[] 93)
          have Hst3 := hide (Hstn.out.new hb3)
          have Hd3 := hide (keepB Hdn.out hb3)
          have Hn3 := hide (keepB Hnn.out hb3)
          clear hlk n0 n1
          generalize Wn.alloc (.cells #[] 93) = W3 at *
          obtain ⟨n0, n1, -, -⟩ := cells2T Hn3.out
          obtain ⟨t0, t1, t2, t3, -, -, -, -⟩ := cells4T Hst3.out.tok
          have hg := Hs.out.rng site
          have hgq := hide (fun n => get_calls _ seen site (W3.drewN n) ((Hn.out.below Hst3.out.below).below (drewsB W3 n)) (by omega))
          obtain ⟨g, hgg⟩ : ∃ g, geti seen site = g := ⟨_, rfl⟩
          rw [hgg] at hgq hg
          have Hgg := hide hgg
          clear hgg
          by_cases hgs : g < seq
          · have hF := hide (Hfold.out.trans (show _ = ((ol.map (·.d)) ++ [⟨ticket, ⟨site, seq, dep, key, val⟩⟩], K ++ [(site, seq)]) by unfold stepK; rw [if_neg hso, if_pos ⟨Hnot.out, by rw [Hgg.out]; exact hgs⟩]))
            clear Hfold hso
            go_quiet (first | (go_at_call 42; refine Calls.quiet_of_same (hgq.out _)))
            go_upto_region 12 with fail
            have hbq := drewsB W3 nq
            have Hst4 := hide (Hst3.out.new hbq)
            have Hd4 := hide (keepB Hd3.out hbq)
            have Hn4 := hide (keepB Hn3.out hbq)
            clear n0 n1 t0 t1 t2 t3 Hst3 Hd3 Hn3 hgq
            generalize W3.drewN nq = W4 at *
            obtain ⟨n0, n1, -, -⟩ := cells2T Hn4.out
            obtain ⟨W5, hrun, hset, htch⟩ := Hst4.out.set.put (site, seq) Hnot.out
            have Hst5 := hide (Hst4.out.put hset htch)
            have Hd5 := hide ((htch.block wr.heap.size (ltB Hd4.out) (by omega)).trans Hd4.out)
            dsimp only at hrun
            clear htch hset Hst4 Hd4 Hn4
            obtain ⟨d0, d1, d2, d3, d4, d5, -⟩ := cells6T Hd5.out
            go_wp2_with (first | (go_at_call 46; refine (tokCopied_calls _ ⟨ticket, ⟨site, seq, dep, key, val⟩⟩ W5 ⟨da, dc, rfl, Hnk.out.below Hst5.out.below⟩ (by dsimp only; omega)).mono ?_; rintro e W2 ⟨v2, rfl, ⟨dv2, rfl, hdv2⟩, hb2⟩; obtain ⟨va, vc, rfl⟩ := ownsRow_slice hdv2; dsimp only at hdv2; have Hst2 := hide (Hst5.out.new hb2); have Hdv2 := hide (ownsRow_low hdv2 (by have := Hst5.out.size; omega : w.heap.size + 2 ≤ W5.heap.size)); have hz2' := Hst2.out.size; clear hdv2 hb2) | (at_builtin; refine wpList_append_own _ rfl _ _ 24 rfl (w.heap.size + 2) 41 i0 _ 6 80 Try.underlying24 hi0 hz0 hz1 hz2 rfl (by decide) _ _ _ rfl (World.ownsRow.alloc Hst2.out.row _) ⟨_, 0, none⟩ 1 1 (Dv.cells ⟨⟨ticket, ⟨site, seq, dep, key, val⟩⟩, .slice va dep.length vc⟩) rfl rfl (cells_new rfl) (one6 rfl) (by unfold maxLen; omega) (by omega) (by simp; omega) ?_; intro v3 w3 hown3 hgrow3 _; have Hst3 := hide (Hst2.out.add Hdv2.out hown3 hgrow3); obtain ⟨g3, c3, rfl⟩ := ownsRow_succ hown3))
            exact ⟨⟨k + 1, ol ++ [⟨⟨ticket, ⟨site, seq, dep, key, val⟩⟩, .slice va dep.length vc⟩], K ++ [(site, seq)], by omega, by go_num, by rw [hF.out]; simp, Hst3.out⟩, by simp [intOf]; omega⟩
          · have hF := hide (Hfold.out.trans (show _ = ((ol.map (·.d)), K) by unfold stepK; rw [if_neg hso, if_neg (fun h => hgs (by have := h.2; rw [Hgg.out] at this; exact this))]))
            clear Hfold hso
            go_quiet (first | (go_at_call 42; refine Calls.quiet_of_same (hgq.out _)))
            go_wp2_with fail
            exact ⟨⟨k + 1, ol, K, by omega, by go_num, hF.out, Hst3.out.new (drewsB W3 nq)⟩, by simp [intOf]; omega⟩
    · have hltI : ¬ (k : Int) < (ql.length : Int) := by omega
      obtain rfl : k = ql.length := by omega
      rw [List.take_of_length_le (by simp)] at hfold
      have hF := hide (congrArg Prod.fst hfold)
      rw [fold_lateT] at hF
      have Hst := hide hst
      obtain ⟨ua, uc, rfl⟩ := ownsRow_slice hst.row
      clear hfold hst
      go_wp2_with fail
      go_ret
      exact ⟨_, rfl, ol, hF.out.symm, ownsRow_low Hst.out.row (by omega), fun q hq => ownsRow_low (Hst.out.deps q hq) (by omega), Hst.out.below⟩

end Go.Proofs.Ytdkpbfigjdmfpaa
