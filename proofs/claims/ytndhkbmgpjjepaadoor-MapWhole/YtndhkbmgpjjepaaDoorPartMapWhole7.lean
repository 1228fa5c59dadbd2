/- Own work: the parts WMapWhole, FrameP of the proof, laid together. -/
import Derived.Test.YtndhkbmgpjjepaaDoorPartMapWhole6
import Derived.Test.YtndhkbmgpjjepaaDoorPartMapWhole1
import Derived.ProofKit
import Derived.OpenShut
import Derived.ShutString
import Derived.ChangeOld
import Derived.Deep.DeepHandedRow
/- The walk of MapWhole. Own work; no statement. -/
set_option linter.unusedSimpArgs false
set_option linter.unusedVariables false
namespace Go.Proofs.YtndhkbmgpjjepaaDoor
open Go.RowKit Go.Shelf

/-- Beside the map: a row of numbers at the block g. -/
structure Seen (w : World) (B g : Nat) (vm : Value) (m : MapD) (c : List Int) (X : World) : Prop where
  low : B ≤ g
  row : X.heap[g]? = some (.cells (c.map (Value.int .i64)).toArray 3 (0, 0))
  map : OwnsM X B vm m
  below : Below B w X
theorem Seen.keep {w : World} {B g : Nat} {vm : Value} {m : MapD} {c : List Int} {X Y : World} (h : Seen w B g vm m c X) (hB : Below X.heap.size X Y) (hs : B ≤ X.heap.size) : Seen w B g vm m c Y :=
  ⟨h.low, (hB.block g (ltAt h.row)).trans h.row, ownsRow_of_heap h.map fun k e => hB.block k (h.map.lt k e).2, h.below.trans (hB.mono hs)⟩
theorem Seen.cell {w : World} {B g : Nat} {vm : Value} {m : MapD} {c : List Int} {X : World} (h : Seen w B g vm m c X) (p : Nat) (hp : p < c.length) : X.cell? ⟨g, p, none⟩ = some (.int .i64 (c.getD p 0)) ∧ X.frozen? ⟨g, p, none⟩ = false := by
  refine ⟨?_, frozenAt h.row p⟩
  rw [cellsAt h.row]
  simp [hp, List.getD_eq_getElem?_getD]
theorem Seen.set {w : World} {B g : Nat} {vm : Value} {m : MapD} {c : List Int} {X : World} (h : Seen w B g vm m c X) (p : Nat) (n : Int) : Seen w B g vm m (c.set p n) (X.setCell ⟨g, p, none⟩ (.int .i64 n)) := by
  refine ⟨h.low, ?_, ownsRow_of_heap h.map fun k e => Below.heap_setCell _ _ _ _ fun e' => ?_, h.below.setCell (p := ⟨g, p, none⟩) h.low _⟩
  · rw [set1 h.row]
    simp [List.map_set]
  · have e2 : k = g := e'
    subst e2
    rcases h.map.2 with ⟨rfl, _⟩ | ⟨g', cap, cur, rfl, _, hg, _⟩
    · cases e
    · cases e
      have := hg.symm.trans h.row
      simp only [Option.some.injEq, Obj.cells.injEq] at this
      exact absurd this.2.1 (by decide)

/-- A number that lies elsewhere lies as it lay when the map grows. -/
theorem kept_cell {X Y : World} {B : Nat} {vm : Value} {m : MapD} {o : Obj} {ad : Addr} {q : IntKind} {n : Int} (hm : OwnsM X B vm m) (hg : (X.alloc o).grownBy Y vm.ownBlock) (hlow : ad.block < B) (hc : X.cell? ad = some (.int q n)) : Y.cell? ad = some (.int q n) := by
  have hlt := World.block_lt_of_cell? X _ hc
  refine (World.cell?_of_block ((hg.block ad.block (by simp; omega) fun e => ?_).trans (Below.heap_alloc _ _ _ hlt))).trans hc
  have := (hm.lt _ e.symm).1
  omega

set_option maxRecDepth 100000 in
set_option maxHeartbeats 4000000 in
theorem mapWhole_main (v : Value) (l : List Int) (n : Int) (w : World) (hv : IsNums .u8 w v l) (hw : ∀ n ∈ l, (Lit.int .u8 n).wf = true) (hn : (Lit.int .u8 n).wf = true) (hp : Pow w) :
    Calls Tryd.prog 7 #[v, .int .u8 n] w fun e w' => e = .returned (.bool true) ∧ Below w.heap.size w w' := by
  obtain ⟨i0, hi0, hz0, hz1, hz2⟩ := info_parts Tryd.info48
  obtain ⟨i1, hi1, hy0, hy1, hy2⟩ := info_parts Tryd.info3
  have K := hide (known5_calls w hp)
  have Hv := hide hv
  obtain ⟨a, cap, rfl, hcap, -⟩ := id hv
  have hw' : ∀ t, t < l.length → 0 ≤ l.getD t 0 ∧ l.getD t 0 ≤ 255 := by
    intro t ht
    rw [List.getD_eq_getElem?_getD, List.getElem?_eq_getElem ht]
    exact rng8 (hw _ (List.getElem_mem ht))
  have Hw := hide hw'
  have hn' := rng8 hn
  clear hv hw hw' hn
  by_cases hl : l.length < 1
  · have hlI : (l.length : Int) < 1 := by omega
    go_enter Tryd.func7, Tryd.ntmps7
    go_wp2_with (go_at_call 8; refine K.out.mono ?_; rintro e w1 ⟨rfl, hB1⟩)
    go_ret
    exact ⟨rfl, hB1⟩
  · by_cases hl8 : 8 < l.length
    · have hlI : ¬ (l.length : Int) < 1 := by omega
      have hlI8 : (8 : Int) < (l.length : Int) := by omega
      go_enter Tryd.func7, Tryd.ntmps7
      go_wp2_with (go_at_call 8; refine K.out.mono ?_; rintro e w1 ⟨rfl, hB1⟩)
      go_ret
      exact ⟨rfl, hB1⟩
    · have hlI : ¬ (l.length : Int) < 1 := by omega
      have hlI8 : ¬ (8 : Int) < (l.length : Int) := by omega
      go_enter Tryd.func7, Tryd.ntmps7
      go_wp2_with (go_at_call 8; refine K.out.mono ?_; rintro e w1 ⟨rfl, hB1⟩)
      obtain ⟨w2, hw2⟩ : ∃ w2, w1.alloc (.cells #[] 48) = w2 := ⟨_, rfl⟩
      have hB2 : Below w.heap.size w w2 := by rw [← hw2]; exact hB1.alloc hB1.size _
      have hm0 : OwnsM w2 w.heap.size (.slice (some ⟨w1.heap.size, 0, none⟩) 0 0) [] := by rw [← hw2]; exact World.ownsRow_made w1 #[] 0 hB1.size (Nat.zero_le _) (by simp)
      rw [hw2]
      clear hw2 K
      go_loopw [5, 6, 7] (fun vm f i wr => ∃ k : Nat, i = .int .i64 (k : Int) ∧ k ≤ l.length ∧ f = .int .i64 (fromG l k) ∧ OwnsM wr w.heap.size vm (mapP l k) ∧ Below w.heap.size w wr) (fun _ _ i _ => l.length - (intOf i).toNat)
      case atStart => exact ⟨0, rfl, Nat.zero_le _, rfl, hm0, hB2⟩
      case round =>
        clear hm0 hB2 hB1
        obtain ⟨k, rfl, hk, rfl, hm, hB⟩ := hrel
        have hfr := fromG_range l k
        have hbs := hB.size
        by_cases hkl : k < l.length
        · have hklI : (k : Int) < (l.length : Int) := by omega
          obtain ⟨b, o, rfl, hc⟩ : ∃ b o, a = some ⟨b, o, none⟩ ∧ wr.cell? ⟨b, o + k, none⟩ = some (.int .u8 (l.getD k 0)) := by
            obtain ⟨a', cap', e, _, h⟩ := Hv.out.below hB
            cases e
            exact h k hkl
          have hbb : b < w.heap.size := by
            obtain ⟨a', cap', e, _, h⟩ := Hv.out
            cases e
            obtain ⟨b', o', e', h'⟩ := h k hkl
            cases e'
            exact World.block_lt_of_cell? w _ h'
          have hx := Hw.out k hkl
          have hfs : Hid (fromG l (k + 1) = fromG l k + l.getD k 0 / 8 % 9) := rfl
          have hgs : Hid (mapP l (k + 1) = mapP l k ++ [(fromG l k, 1 + l.getD k 0 % 8)]) := rfl
          have hlen : (mapP l k).length ≤ 1000 := by rw [mapP_length]; omega
          generalize l.getD k 0 = x at *
          generalize fromG l k = f at *
          generalize mapP l k = m at *
          obtain ⟨am, cm, rfl⟩ := ownsRow_slice hm
          go_wp2_with (at_builtin; refine wpList_append_own _ rfl (.tmp 33) _ 23 rfl w.heap.size 48 i0 _ 2 16 Tryd.underlying23 hi0 hz0 hz1 hz2 rfl (by decide) _ _ _ rfl (World.ownsRow.alloc hm _) ⟨_, 0, none⟩ 1 1 [.int .i64 f, .int .i64 (1 + x % 8)] rfl rfl (two_new (by simp)) two_one (by unfold maxLen; omega) (by omega) (by simp; omega) ?_; intro v1 w3 hown1 hgrow1 _; have hc3 := kept_cell hm hgrow1 hbb hc)
          have hB3 : Below w.heap.size w w3 := (hB.alloc hB.size _).grown hgrow1 (by simp; omega) (fun j hj => (hm.lt j hj).1)
          refine ⟨⟨k + 1, by go_num, by omega, by rw [hfs.out], ?_, hB3⟩, by simp [intOf]; omega⟩
          rw [hgs.out, OwnsM, List.length_append, cellsM_append]
          exact hown1
        · have hkl' : k = l.length := by omega
          have hok := mapP_ok l k (by omega)
          have hth := mapP_then l k (by omega)
          have hnu := mapP_nums l k (by omega)
          have hlen : (mapP l k).length ≤ 1000 := by rw [mapP_length]; omega
          generalize mapP l k = m at *
          clear hfr hkl'
          obtain ⟨K0, hK0⟩ : ∃ K0 : Nat, n % 80 = (K0 : Int) := Int.eq_ofNat_of_zero_le (Int.emod_nonneg n (by decide))
          have hK80 : K0 < 80 := by have := Int.emod_lt_of_pos n (show (0 : Int) < 80 by decide); omega
          have HO := hide hok
          have HT := hide hth
          have HU := hide hnu
          have Hm := hide hm
          clear hok hth hnu hm Hv Hw
          go_wp2_with (at_make; rw [hK0]; refine wpList_make_full _ rfl _ _ 49 rfl w.heap.size 3 i1 (.int .i64 0) 1 Tryd.underlying49 hi1 hy0 hy1 _ _ _ _ K0 rfl rfl rfl rfl ?b2 ?b3 hbs ?_)
          case b2 => rw [hy2]; omega
          case b3 => unfold maxLen; omega
          intro w3 hown3 hgrow3
          have hrow3 : w3.heap[wr.heap.size]? = some (.cells ((seenA m K0 0 0).map (Value.int .i64)).toArray 3 (0, 0)) := by
            rw [toList_madeCells_one] at hown3
            rw [seen_start HO.out, List.map_replicate]
            exact (row_full hown3).2
          have S0 : Seen w w.heap.size wr.heap.size u5 m (seenA m K0 0 0) w3 := ⟨hbs, hrow3, ownsRow_of_heap Hm.out fun k e => hgrow3.block k (Hm.out.lt k e).2 (fun e => by cases e), hB.grown hgrow3 hbs (fun k e => by cases e)⟩
          obtain ⟨am, cm, rfl⟩ := ownsRow_slice Hm.out
          obtain ⟨g, hg⟩ : ∃ g, wr.heap.size = g := ⟨_, rfl⟩
          have hs3 := S0.below.size
          have hgs : g < w3.heap.size := by rw [← hg]; exact ltAt hrow3
          rw [hg] at S0 ⊢
          have Hk := hide hK0
          clear hown3 hgrow3 hrow3 Hm hB hg
          go_wp2_with fail
          go_loopw [10] (fun sv wi => ∃ s : Nat, sv = .int .i64 (s : Int) ∧ s ≤ 8 ∧ Seen w w.heap.size g (.slice am m.length cm) m (seenA m K0 s 0) wi ∧ w.heap.size ≤ wi.heap.size) (fun sv _ => 8 - (intOf sv).toNat)
          case atStart => exact ⟨0, rfl, by omega, S0, by omega⟩
          case round =>
            clear S0 hgs hbs
            obtain ⟨s, rfl, hs8, S1, hbs⟩ := hrel
            by_cases hs : s < 8
            · have hsI : (s : Int) < 8 := by omega
              have P := hide (positions_calls _ m s 0 K0 wr (OwnsM.map S1.map) (by omega))
              have hpl : (posL m s 0 K0).length ≤ 100 := by
                have := posL_want HO.out s 0 K0 (Int.le_refl 0)
                rw [Int.zero_add] at this
                rw [this]
                have := wantL_length m s 0 K0
                omega
              go_wp2_with fail
              refine P.out.mono ?_
              rintro e w4 ⟨rfl, ⟨vr, hpos⟩, hB4⟩
              rw [HT.out] at hpos
              have S4 := S1.keep hB4 hbs
              have N := hide (nums_calls _ vr m s 0 K0 100 w4 hpos (by omega) HU.out (by omega) (by omega) (by omega) hpl (by omega))
              unfold posV at N
              have hg4 : g < w4.heap.size := ltAt S4.row
              have hb4 := S4.below.size
              clear P hpos hB4 S1
              go_wp2_with fail
              refine N.out.mono ?_
              rintro e w5 ⟨vx, rfl, hownx, hB5⟩
              have S5 := S4.keep hB5 hb4
              have hnx := seen_next HO.out K0 s
              have hat := hide fun j hj => seen_at HO.out K0 s j hj
              generalize hxs : posL m s 0 K0 = xs at *
              obtain ⟨ax, cx, rfl⟩ := ownsRow_slice hownx
              clear N S4
              go_wp2_with fail
              go_loopw [13] (fun iv wi => ∃ j : Nat, iv = .int .i64 (j : Int) ∧ j ≤ xs.length ∧ Seen w w.heap.size g (.slice am m.length cm) m (seenA m K0 s j) wi ∧ wi.ownsRow w4.heap.size 3 1 (.slice ax xs.length cx) xs.length (xs.map (Value.int .i64))) (fun iv _ => xs.length - (intOf iv).toNat)
              case atStart => exact ⟨0, rfl, Nat.zero_le _, S5, hownx⟩
              case round =>
                clear S5 hownx hB5
                obtain ⟨j, rfl, hj, S6, hox⟩ := hrel
                by_cases hjl : j < xs.length
                · have hjlI : (j : Int) < (xs.length : Int) := by omega
                  obtain ⟨x, hx1, hx2, hx3⟩ := hat.out j hjl
                  obtain ⟨gx, rfl, hgx, hcx⟩ : ∃ gx, ax = some ⟨gx, 0, none⟩ ∧ gx ≠ g ∧ wr.cell? ⟨gx, j, none⟩ = some (.int .i64 (x : Int)) := by
                    rcases hox.2 with ⟨e, h0⟩ | ⟨gx, cap', cur, e, hb, _⟩
                    · omega
                    · cases e
                      refine ⟨gx, rfl, by omega, ?_⟩
                      rw [hox.cellAt j (by omega)]
                      simp [hjl, hx1]
                  have hcl := seenA_length m K0 s j
                  obtain ⟨cs, fs⟩ := S6.cell x (by omega)
                  have S7 := S6.set x ((seenA m K0 s j).getD x 0 + 1)
                  rw [hx3] at S7
                  have hsr : 0 ≤ (seenA m K0 s j).getD x 0 ∧ (seenA m K0 s j).getD x 0 ≤ 2 := by
                    rw [seenA_get m K0 s j x hx2]
                    unfold seenF
                    split <;> split <;> omega
                  generalize (seenA m K0 s j).getD x 0 = c at *
                  have h1 : ¬ (x : Int) < 0 := by omega
                  have h2 : ¬ (K0 : Int) ≤ (x : Int) := by omega
                  have h2' : (x : Int) < (K0 : Int) := by omega
                  clear hx3 hcl
                  go_wp2_with fail
                  refine ⟨⟨j + 1, by go_num, by omega, S7, ownsRow_of_heap hox fun c e => Below.heap_setCell _ _ _ _ fun e' => ?_⟩, by simp [intOf]; omega⟩
                  have e1 : c = gx := by cases e; rfl
                  have e2 : c = g := e'
                  omega
                · have hjl' : j = xs.length := by omega
                  go_wp2_with fail
                  exact ⟨⟨s + 1, by go_num, by omega, by rw [← hnx, ← hjl']; exact S6, S6.below.size⟩, by simp [intOf]; omega⟩
            · have hsI : ¬ (s : Int) < 8 := by omega
              have e8 : s = 8 := by omega
              subst e8
              have hse := seen_end HO.out K0
              rw [hse] at S1
              have R1 := S1.row
              have B1 := S1.below
              have hgl := S1.low
              clear S1 hse
              go_wp2_with (at_make; refine wpList_make_full _ rfl _ _ 49 rfl w.heap.size 3 i1 (.int .i64 0) 1 Tryd.underlying49 hi1 hy0 hy1 _ _ _ _ K0 rfl rfl rfl rfl ?b4 ?b5 hbs ?_)
              case b4 => omega
              case b5 => unfold maxLen; omega
              intro w4 hown4 hgrow4
              have hrow4 : w4.heap[wr.heap.size]? = some (.cells (((List.replicate 0 (1 : Int)) ++ List.replicate (K0 - 0) 0).map (Value.int .i64)).toArray 3 (0, 0)) := by
                rw [toList_madeCells_one] at hown4
                simp only [List.replicate_zero, List.nil_append, Nat.sub_zero, List.map_replicate]
                exact (row_full hown4).2
              have R4 := (hgrow4.block g (ltAt R1) (fun e => by cases e)).trans R1
              have B4 : Below w.heap.size w w4 := B1.grown hgrow4 hbs (fun k e => by cases e)
              have hgq : g < wr.heap.size := ltAt R1
              obtain ⟨q, hq⟩ : ∃ q, wr.heap.size = q := ⟨_, rfl⟩
              rw [hq] at hrow4 hgq hbs ⊢
              clear hown4 hgrow4 R1 B1 hq
              go_wp2_with fail
              go_loopw [15] (fun iv wi => ∃ j : Nat, iv = .int .i64 (j : Int) ∧ j ≤ K0 ∧ wi.heap[q]? = some (.cells (((List.replicate j (1 : Int)) ++ List.replicate (K0 - j) 0).map (Value.int .i64)).toArray 3 (0, 0)) ∧ wi.heap[g]? = some (.cells ((List.replicate K0 (1 : Int)).map (Value.int .i64)).toArray 3 (0, 0)) ∧ Below w.heap.size w wi) (fun iv _ => K0 - (intOf iv).toNat)
              case atStart => exact ⟨0, rfl, Nat.zero_le _, hrow4, R4, B4⟩
              case round =>
                clear hrow4 R4 B4
                obtain ⟨j, rfl, hj, Rq, Rg, B5⟩ := hrel
                by_cases hjl : j < K0
                · have hjlI : (j : Int) < (K0 : Int) := by omega
                  have cq : wr.cell? ⟨q, j, none⟩ = some (.int .i64 0) := by
                    rw [cellsAt Rq, List.getElem?_toArray, List.getElem?_map, List.getElem?_append_right (by simp), List.length_replicate, Nat.sub_self, List.getElem?_replicate, if_pos (by omega)]
                    rfl
                  have fq := frozenAt Rq j
                  have Rq2 := set1 (j := j) Rq (.int .i64 1)
                  have Rg2 : (wr.setCell ⟨q, j, none⟩ (.int .i64 1)).heap[g]? = _ := (Below.heap_setCell _ _ _ _ (fun e' => by have e2 : g = q := e'; omega)).trans Rg
                  have B6 := B5.setCell (p := ⟨q, j, none⟩) (by simp; omega) (.int .i64 1)
                  have he : ((((List.replicate j (1 : Int)) ++ List.replicate (K0 - j) 0).map (Value.int .i64)).toArray.setIfInBounds j (.int .i64 1)) = ((((List.replicate (j + 1) (1 : Int)) ++ List.replicate (K0 - (j + 1)) 0).map (Value.int .i64)).toArray) := by
                    apply Array.ext'
                    rw [Array.toList_setIfInBounds]
                    obtain ⟨d, hd⟩ : ∃ d, K0 - j = d + 1 := ⟨K0 - j - 1, by omega⟩
                    have hd2 : K0 - (j + 1) = d := by omega
                    rw [hd, hd2, List.replicate_succ (n := d), List.replicate_succ' (n := j)]
                    simp only [List.map_append, List.map_cons, List.map_nil, List.map_replicate]
                    rw [List.set_append_right _ _ (by simp)]
                    simp
                  rw [he] at Rq2
                  have HQ := hide Rq2
                  clear he Rq2 Rq
                  go_wp2_with fail
                  exact ⟨⟨j + 1, by go_num, by omega, HQ.out, Rg2, B6⟩, by simp [intOf]; omega⟩
                · have hjl' : j = K0 := by omega
                  have hlq : ((List.replicate j (1 : Int)) ++ List.replicate (K0 - j) 0) = List.replicate K0 1 := by rw [hjl', Nat.sub_self]; simp
                  rw [hlq] at Rq
                  have n1 : IsNums .i64 wr (.slice (some ⟨g, 0, none⟩) K0 K0) (List.replicate K0 1) := IsNums.of_row (base := 0) (n := K0) (e := 3) (by have := full_row (n := K0) (base := 0) (Nat.zero_le _) (by unfold maxLen; omega) (by simp) Rg; exact this)
                  have n2 : IsNums .i64 wr (.slice (some ⟨q, 0, none⟩) K0 K0) (List.replicate K0 1) := IsNums.of_row (base := 0) (n := K0) (e := 3) (by have := full_row (n := K0) (base := 0) (Nat.zero_le _) (by unfold maxLen; omega) (by simp) Rq; exact this)
                  have I := hide (ints_calls _ _ _ _ wr n1 n2 (by simp; omega) (by simp; omega))
                  rw [decide_eq_true rfl] at I
                  clear n1 n2 Rq Rg
                  go_wp2_with fail
                  refine I.out.mono ?_
                  rintro e w6 ⟨rfl, d, rfl⟩
                  go_wp2
                  go_ret
                  exact ⟨rfl, B5.trans (below_draws d)⟩

end Go.Proofs.YtndhkbmgpjjepaaDoor

/- What the proofs of the statements share: slices that came in. Own work; no statement. -/
set_option linter.unusedSimpArgs false
set_option linter.unusedVariables false
namespace Go.Proofs.YtndhkbmgpjjepaaDoor
open Go.ChangeShapes Go.WideShapes Go.ChangeAt Go.RowKit

theorem own : ownKnob Tryd.prog.godebug = none := by kernel_rfl
theorem laidOut : laidOutB Tryd.prog = true := by kernel_rfl

/-- A slice of integers that came in: what it reads as; its numbers fit their kind. -/
theorem nums_of_open {H : Type} {enc : TypeId × Value → H} {W : World} {base : Nat} {sp : Nat → Bool} {held : Bool} {t e : TypeId} {k : IntKind} {fuel : Nat} {a : Option Addr} {len cap : Nat} {x : DataW H × List MemPlace}
    (ht : Tryd.prog.underlying t = some (.slice e)) (he : Tryd.prog.underlying e = some (.int k)) (hc : Tryd.prog.cellsOf e = 1) (h : DataW.trod enc Tryd.prog W base sp held fuel t [.slice a len cap] = some x) (hsp : ∀ b, sp b = true) :
    ∃ zs : List Int, IsNums k W (.slice a len cap) zs ∧ (∀ n ∈ zs, (Lit.int k n).wf = true) := by
  rcases open_ints ht he hc h with ⟨hcs, _⟩ | ⟨y, l, c, zs, hcs, _, hl, hm, hz, _, hcell, hwz⟩
  · simp at hcs
    obtain ⟨rfl, rfl, rfl⟩ := hcs
    exact ⟨[], IsNums.nil _ _ _ _, fun n hn => absurd hn (by simp)⟩
  · simp at hcs
    obtain ⟨rfl, rfl, rfl⟩ := hcs
    rw [hsp, if_pos rfl] at hz
    have hlen : (zs.take len).length = len := by simp; omega
    refine ⟨zs.take len, ⟨some y, cap, by rw [hlen], by omega, fun i hi => ?_⟩, fun n hn => hwz n (List.mem_of_mem_take hn)⟩
    obtain ⟨b, off, rfl, hc'⟩ := ints_at hcell (by omega)
    refine ⟨b, off, rfl, ?_⟩
    rw [hc' i (by omega)]
    simp [List.getD, List.getElem?_take, show i < len by omega]

end Go.Proofs.YtndhkbmgpjjepaaDoor
