/- Own work: the parts WMapWhole, R8, M18, M19g, M19a, M19b, M19c of the proof, laid together. -/
import Derived.Test.YtndhkbmgpjjepaaDoorPartMapParts6
import Derived.Test.YtndhkbmgpjjepaaDoorPartMapParts2
import Derived.Deep.RegionLaw
/- The walk of MapWhole. Own work; no statement. -/
set_option linter.unusedSimpArgs false
set_option linter.unusedVariables false
namespace Go.Proofs.YtndhkbmgpjjepaaDoor
open Go.RowKit Go.Shelf

/-- Beside the map: a row of numbers at the block g. -/
structure Seen (w : World) (B g : Nat) (vm : Value) (m : MapD) (c : List Int) (X : World) : Prop where
  low : B ≤ g
  row : X.heap[g]? = some (.cells (c.map (Value.int .i64)).toArray 3 (0, 0))
  map : OwnsM X B vm m
  below : Below B w X
theorem Seen.keep {w : World} {B g : Nat} {vm : Value} {m : MapD} {c : List Int} {X Y : World} (h : Seen w B g vm m c X) (hB : Below X.heap.size X Y) (hs : B ≤ X.heap.size) : Seen w B g vm m c Y :=
  ⟨h.low, (hB.block g (ltAt h.row)).trans h.row, ownsRow_of_heap h.map fun k e => hB.block k (h.map.lt k e).2, h.below.trans (hB.mono hs)⟩
theorem Seen.cell {w : World} {B g : Nat} {vm : Value} {m : MapD} {c : List Int} {X : World} (h : Seen w B g vm m c X) (p : Nat) (hp : p < c.length) : X.cell? ⟨g, p, none⟩ = some (.int .i64 (c.getD p 0)) ∧ X.frozen? ⟨g, p, none⟩ = false := by
  refine ⟨?_, frozenAt h.row p⟩
  rw [cellsAt h.row]
  simp [hp, List.getD_eq_getElem?_getD]
theorem Seen.set {w : World} {B g : Nat} {vm : Value} {m : MapD} {c : List Int} {X : World} (h : Seen w B g vm m c X) (p : Nat) (n : Int) : Seen w B g vm m (c.set p n) (X.setCell ⟨g, p, none⟩ (.int .i64 n)) := by
  refine ⟨h.low, ?_, ownsRow_of_heap h.map fun k e => Below.heap_setCell _ _ _ _ fun e' => ?_, h.below.setCell (p := ⟨g, p, none⟩) h.low _⟩
  · rw [set1 h.row]
    simp [List.map_set]
  · have e2 : k = g := e'
    subst e2
    rcases h.map.2 with ⟨rfl, _⟩ | ⟨g', cap, cur, rfl, _, hg, _⟩
    · cases e
    · cases e
      have := hg.symm.trans h.row
      simp only [Option.some.injEq, Obj.cells.injEq] at this
      exact absurd this.2.1 (by decide)

/-- A number that lies elsewhere lies as it lay when the map grows. -/
theorem kept_cell {X Y : World} {B : Nat} {vm : Value} {m : MapD} {o : Obj} {ad : Addr} {q : IntKind} {n : Int} (hm : OwnsM X B vm m) (hg : (X.alloc o).grownBy Y vm.ownBlock) (hlow : ad.block < B) (hc : X.cell? ad = some (.int q n)) : Y.cell? ad = some (.int q n) := by
  have hlt := World.block_lt_of_cell? X _ hc
  refine (World.cell?_of_block ((hg.block ad.block (by simp; omega) fun e => ?_).trans (Below.heap_alloc _ _ _ hlt))).trans hc
  have := (hm.lt _ e.symm).1
  omega

set_option maxRecDepth 100000 in
set_option maxHeartbeats 4000000 in
theorem mapWhole_main (v : Value) (l : List Int) (n : Int) (w : World) (hv : IsNums .u8 w v l) (hw : ∀ n ∈ l, (Lit.int .u8 n).wf = true) (hn : (Lit.int .u8 n).wf = true) (hp : Pow w) :
    Calls Tryd.prog 7 #[v, .int .u8 n] w fun e w' => e = .returned (.bool true) ∧ Below w.heap.size w w' := by
  obtain ⟨i0, hi0, hz0, hz1, hz2⟩ := info_parts Tryd.info48
  obtain ⟨i1, hi1, hy0, hy1, hy2⟩ := info_parts Tryd.info3
  have K := hide (known5_calls w hp)
  have Hv := hide hv
  obtain ⟨a, cap, rfl, hcap, -⟩ := id hv
  have hw' : ∀ t, t < l.length → 0 ≤ l.getD t 0 ∧ l.getD t 0 ≤ 255 := by
    intro t ht
    rw [List.getD_eq_getElem?_getD, List.getElem?_eq_getElem ht]
    exact rng8 (hw _ (List.getElem_mem ht))
  have Hw := hide hw'
  have hn' := rng8 hn
  clear hv hw hw' hn
  by_cases hl : l.length < 1
  · have hlI : (l.length : Int) < 1 := by omega
    go_enter Tryd.func7, Tryd.ntmps7
    go_wp2_with (go_at_call 8; refine K.out.mono ?_; rintro e w1 ⟨rfl, hB1⟩)
    go_ret
    exact ⟨rfl, hB1⟩
  · by_cases hl8 : 8 < l.length
    · have hlI : ¬ (l.length : Int) < 1 := by omega
      have hlI8 : (8 : Int) < (l.length : Int) := by omega
      go_enter Tryd.func7, Tryd.ntmps7
      go_wp2_with (go_at_call 8; refine K.out.mono ?_; rintro e w1 ⟨rfl, hB1⟩)
      go_ret
      exact ⟨rfl, hB1⟩
    · have hlI : ¬ (l.length : Int) < 1 := by omega
      have hlI8 : ¬ (8 : Int) < (l.length : Int) := by omega
      go_enter Tryd.func7, Tryd.ntmps7
      go_wp2_with (go_at_call 8; refine K.out.mono ?_; rintro e w1 ⟨rfl, hB1⟩)
      obtain ⟨w2, hw2⟩ : ∃ w2, w1.alloc (.cells #[] 48) = w2 := ⟨_, rfl⟩
      have hB2 : Below w.heap.size w w2 := by rw [← hw2]; exact hB1.alloc hB1.size _
      have hm0 : OwnsM w2 w.heap.size (.slice (some ⟨w1.heap.size, 0, none⟩) 0 0) [] := by rw [← hw2]; exact World.ownsRow_made w1 #[] 0 hB1.size (Nat.zero_le _) (by simp)
      rw [hw2]
      clear hw2 K
      go_loopw [5, 6, 7] (fun vm f i wr => ∃ k : Nat, i = .int .i64 (k : Int) ∧ k ≤ l.length ∧ f = .int .i64 (fromG l k) ∧ OwnsM wr w.heap.size vm (mapP l k) ∧ Below w.heap.size w wr) (fun _ _ i _ => l.length - (intOf i).toNat)
      case atStart => exact ⟨0, rfl, Nat.zero_le _, rfl, hm0, hB2⟩
      case round =>
        clear hm0 hB2 hB1
        obtain ⟨k, rfl, hk, rfl, hm, hB⟩ := hrel
        have hfr := fromG_range l k
        have hbs := hB.size
        by_cases hkl : k < l.length
        · have hklI : (k : Int) < (l.length : Int) := by omega
          obtain ⟨b, o, rfl, hc⟩ : ∃ b o, a = some ⟨b, o, none⟩ ∧ wr.cell? ⟨b, o + k, none⟩ = some (.int .u8 (l.getD k 0)) := by
            obtain ⟨a', cap', e, _, h⟩ := Hv.out.below hB
            cases e
            exact h k hkl
          have hbb : b < w.heap.size := by
            obtain ⟨a', cap', e, _, h⟩ := Hv.out
            cases e
            obtain ⟨b', o', e', h'⟩ := h k hkl
            cases e'
            exact World.block_lt_of_cell? w _ h'
          have hx := Hw.out k hkl
          have hfs : Hid (fromG l (k + 1) = fromG l k + l.getD k 0 / 8 % 9) := rfl
          have hgs : Hid (mapP l (k + 1) = mapP l k ++ [(fromG l k, 1 + l.getD k 0 % 8)]) := rfl
          have hlen : (mapP l k).length ≤ 1000 := by rw [mapP_length]; omega
          generalize l.getD k 0 = x at *
          generalize fromG l k = f at *
          generalize mapP l k = m at *
          obtain ⟨am, cm, rfl⟩ := ownsRow_slice hm
          go_wp2_with (at_builtin; refine wpList_append_own _ rfl (.tmp 33) _ 23 rfl w.heap.size 48 i0 _ 2 16 Tryd.underlying23 hi0 hz0 hz1 hz2 rfl (by decide) _ _ _ rfl (World.ownsRow.alloc hm _) ⟨_, 0, none⟩ 1 1 [.int .i64 f, .int .i64 (1 + x % 8)] rfl rfl (two_new (by simp)) two_one (by unfold maxLen; omega) (by omega) (by simp; omega) ?_; intro v1 w3 hown1 hgrow1 _; have hc3 := kept_cell hm hgrow1 hbb hc)
          have hB3 : Below w.heap.size w w3 := (hB.alloc hB.size _).grown hgrow1 (by simp; omega) (fun j hj => (hm.lt j hj).1)
          refine ⟨⟨k + 1, by go_num, by omega, by rw [hfs.out], ?_, hB3⟩, by simp [intOf]; omega⟩
          rw [hgs.out, OwnsM, List.length_append, cellsM_append]
          exact hown1
        · have hkl' : k = l.length := by omega
          have hok := mapP_ok l k (by omega)
          have hth := mapP_then l k (by omega)
          have hnu := mapP_nums l k (by omega)
          have hlen : (mapP l k).length ≤ 1000 := by rw [mapP_length]; omega
          generalize mapP l k = m at *
          clear hfr hkl'
          obtain ⟨K0, hK0⟩ : ∃ K0 : Nat, n % 80 = (K0 : Int) := Int.eq_ofNat_of_zero_le (Int.emod_nonneg n (by decide))
          have hK80 : K0 < 80 := by have := Int.emod_lt_of_pos n (show (0 : Int) < 80 by decide); omega
          have HO := hide hok
          have HT := hide hth
          have HU := hide hnu
          have Hm := hide hm
          clear hok hth hnu hm Hv Hw
          go_wp2_with (at_make; rw [hK0]; refine wpList_make_full _ rfl _ _ 49 rfl w.heap.size 3 i1 (.int .i64 0) 1 Tryd.underlying49 hi1 hy0 hy1 _ _ _ _ K0 rfl rfl rfl rfl ?b2 ?b3 hbs ?_)
          case b2 => rw [hy2]; omega
          case b3 => unfold maxLen; omega
          intro w3 hown3 hgrow3
          have hrow3 : w3.heap[wr.heap.size]? = some (.cells ((seenA m K0 0 0).map (Value.int .i64)).toArray 3 (0, 0)) := by
            rw [toList_madeCells_one] at hown3
            rw [seen_start HO.out, List.map_replicate]
            exact (row_full hown3).2
          have S0 : Seen w w.heap.size wr.heap.size u5 m (seenA m K0 0 0) w3 := ⟨hbs, hrow3, ownsRow_of_heap Hm.out fun k e => hgrow3.block k (Hm.out.lt k e).2 (fun e => by cases e), hB.grown hgrow3 hbs (fun k e => by cases e)⟩
          obtain ⟨am, cm, rfl⟩ := ownsRow_slice Hm.out
          obtain ⟨g, hg⟩ : ∃ g, wr.heap.size = g := ⟨_, rfl⟩
          have hs3 := S0.below.size
          have hgs : g < w3.heap.size := by rw [← hg]; exact ltAt hrow3
          rw [hg] at S0 ⊢
          have Hk := hide hK0
          clear hown3 hgrow3 hrow3 Hm hB hg
          go_wp2_with fail
          go_loopw [10] (fun sv wi => ∃ s : Nat, sv = .int .i64 (s : Int) ∧ s ≤ 8 ∧ Seen w w.heap.size g (.slice am m.length cm) m (seenA m K0 s 0) wi ∧ w.heap.size ≤ wi.heap.size) (fun sv _ => 8 - (intOf sv).toNat)
          case atStart => exact ⟨0, rfl, by omega, S0, by omega⟩
          case round =>
            clear S0 hgs hbs
            obtain ⟨s, rfl, hs8, S1, hbs⟩ := hrel
            by_cases hs : s < 8
            · have hsI : (s : Int) < 8 := by omega
              have P := hide (positions_calls _ m s 0 K0 wr (OwnsM.map S1.map) (by omega))
              have hpl : (posL m s 0 K0).length ≤ 100 := by
                have := posL_want HO.out s 0 K0 (Int.le_refl 0)
                rw [Int.zero_add] at this
                rw [this]
                have := wantL_length m s 0 K0
                omega
              go_wp2_with fail
              refine P.out.mono ?_
              rintro e w4 ⟨rfl, ⟨vr, hpos⟩, hB4⟩
              rw [HT.out] at hpos
              have S4 := S1.keep hB4 hbs
              have N := hide (nums_calls _ vr m s 0 K0 100 w4 hpos (by omega) HU.out (by omega) (by omega) (by omega) hpl (by omega))
              unfold posV at N
              have hg4 : g < w4.heap.size := ltAt S4.row
              have hb4 := S4.below.size
              clear P hpos hB4 S1
              go_wp2_with fail
              refine N.out.mono ?_
              rintro e w5 ⟨vx, rfl, hownx, hB5⟩
              have S5 := S4.keep hB5 hb4
              have hnx := seen_next HO.out K0 s
              have hat := hide fun j hj => seen_at HO.out K0 s j hj
              generalize hxs : posL m s 0 K0 = xs at *
              obtain ⟨ax, cx, rfl⟩ := ownsRow_slice hownx
              clear N S4
              go_wp2_with fail
              go_loopw [13] (fun iv wi => ∃ j : Nat, iv = .int .i64 (j : Int) ∧ j ≤ xs.length ∧ Seen w w.heap.size g (.slice am m.length cm) m (seenA m K0 s j) wi ∧ wi.ownsRow w4.heap.size 3 1 (.slice ax xs.length cx) xs.length (xs.map (Value.int .i64))) (fun iv _ => xs.length - (intOf iv).toNat)
              case atStart => exact ⟨0, rfl, Nat.zero_le _, S5, hownx⟩
              case round =>
                clear S5 hownx hB5
                obtain ⟨j, rfl, hj, S6, hox⟩ := hrel
                by_cases hjl : j < xs.length
                · have hjlI : (j : Int) < (xs.length : Int) := by omega
                  obtain ⟨x, hx1, hx2, hx3⟩ := hat.out j hjl
                  obtain ⟨gx, rfl, hgx, hcx⟩ : ∃ gx, ax = some ⟨gx, 0, none⟩ ∧ gx ≠ g ∧ wr.cell? ⟨gx, j, none⟩ = some (.int .i64 (x : Int)) := by
                    rcases hox.2 with ⟨e, h0⟩ | ⟨gx, cap', cur, e, hb, _⟩
                    · omega
                    · cases e
                      refine ⟨gx, rfl, by omega, ?_⟩
                      rw [hox.cellAt j (by omega)]
                      simp [hjl, hx1]
                  have hcl := seenA_length m K0 s j
                  obtain ⟨cs, fs⟩ := S6.cell x (by omega)
                  have S7 := S6.set x ((seenA m K0 s j).getD x 0 + 1)
                  rw [hx3] at S7
                  have hsr : 0 ≤ (seenA m K0 s j).getD x 0 ∧ (seenA m K0 s j).getD x 0 ≤ 2 := by
                    rw [seenA_get m K0 s j x hx2]
                    unfold seenF
                    split <;> split <;> omega
                  generalize (seenA m K0 s j).getD x 0 = c at *
                  have h1 : ¬ (x : Int) < 0 := by omega
                  have h2 : ¬ (K0 : Int) ≤ (x : Int) := by omega
                  have h2' : (x : Int) < (K0 : Int) := by omega
                  clear hx3 hcl
                  go_wp2_with fail
                  refine ⟨⟨j + 1, by go_num, by omega, S7, ownsRow_of_heap hox fun c e => Below.heap_setCell _ _ _ _ fun e' => ?_⟩, by simp [intOf]; omega⟩
                  have e1 : c = gx := by cases e; rfl
                  have e2 : c = g := e'
                  omega
                · have hjl' : j = xs.length := by omega
                  go_wp2_with fail
                  exact ⟨⟨s + 1, by go_num, by omega, by rw [← hnx, ← hjl']; exact S6, S6.below.size⟩, by simp [intOf]; omega⟩
            · have hsI : ¬ (s : Int) < 8 := by omega
              have e8 : s = 8 := by omega
              subst e8
              have hse := seen_end HO.out K0
              rw [hse] at S1
              have R1 := S1.row
              have B1 := S1.below
              have hgl := S1.low
              clear S1 hse
              go_wp2_with (at_make; refine wpList_make_full _ rfl _ _ 49 rfl w.heap.size 3 i1 (.int .i64 0) 1 Tryd.underlying49 hi1 hy0 hy1 _ _ _ _ K0 rfl rfl rfl rfl ?b4 ?b5 hbs ?_)
              case b4 => omega
              case b5 => unfold maxLen; omega
              intro w4 hown4 hgrow4
              have hrow4 : w4.heap[wr.heap.size]? = some (.cells (((List.replicate 0 (1 : Int)) ++ List.replicate (K0 - 0) 0).map (Value.int .i64)).toArray 3 (0, 0)) := by
                rw [toList_madeCells_one] at hown4
                simp only [List.replicate_zero, List.nil_append, Nat.sub_zero, List.map_replicate]
                exact (row_full hown4).2
              have R4 := (hgrow4.block g (ltAt R1) (fun e => by cases e)).trans R1
              have B4 : Below w.heap.size w w4 := B1.grown hgrow4 hbs (fun k e => by cases e)
              have hgq : g < wr.heap.size := ltAt R1
              obtain ⟨q, hq⟩ : ∃ q, wr.heap.size = q := ⟨_, rfl⟩
              rw [hq] at hrow4 hgq hbs ⊢
              clear hown4 hgrow4 R1 B1 hq
              go_wp2_with fail
              go_loopw [15] (fun iv wi => ∃ j : Nat, iv = .int .i64 (j : Int) ∧ j ≤ K0 ∧ wi.heap[q]? = some (.cells (((List.replicate j (1 : Int)) ++ List.replicate (K0 - j) 0).map (Value.int .i64)).toArray 3 (0, 0)) ∧ wi.heap[g]? = some (.cells ((List.replicate K0 (1 : Int)).map (Value.int .i64)).toArray 3 (0, 0)) ∧ Below w.heap.size w wi) (fun iv _ => K0 - (intOf iv).toNat)
              case atStart => exact ⟨0, rfl, Nat.zero_le _, hrow4, R4, B4⟩
              case round =>
                clear hrow4 R4 B4
                obtain ⟨j, rfl, hj, Rq, Rg, B5⟩ := hrel
                by_cases hjl : j < K0
                · have hjlI : (j : Int) < (K0 : Int) := by omega
                  have cq : wr.cell? ⟨q, j, none⟩ = some (.int .i64 0) := by
                    rw [cellsAt Rq, List.getElem?_toArray, List.getElem?_map, List.getElem?_append_right (by simp), List.length_replicate, Nat.sub_self, List.getElem?_replicate, if_pos (by omega)]
                    rfl
                  have fq := frozenAt Rq j
                  have Rq2 := set1 (j := j) Rq (.int .i64 1)
                  have Rg2 : (wr.setCell ⟨q, j, none⟩ (.int .i64 1)).heap[g]? = _ := (Below.heap_setCell _ _ _ _ (fun e' => by have e2 : g = q := e'; omega)).trans Rg
                  have B6 := B5.setCell (p := ⟨q, j, none⟩) (by simp; omega) (.int .i64 1)
                  have he : ((((List.replicate j (1 : Int)) ++ List.replicate (K0 - j) 0).map (Value.int .i64)).toArray.setIfInBounds j (.int .i64 1)) = ((((List.replicate (j + 1) (1 : Int)) ++ List.replicate (K0 - (j + 1)) 0).map (Value.int .i64)).toArray) := by
                    apply Array.ext'
                    rw [Array.toList_setIfInBounds]
                    obtain ⟨d, hd⟩ : ∃ d, K0 - j = d + 1 := ⟨K0 - j - 1, by omega⟩
                    have hd2 : K0 - (j + 1) = d := by omega
                    rw [hd, hd2, List.replicate_succ (n := d), List.replicate_succ' (n := j)]
                    simp only [List.map_append, List.map_cons, List.map_nil, List.map_replicate]
                    rw [List.set_append_right _ _ (by simp)]
                    simp
                  rw [he] at Rq2
                  have HQ := hide Rq2
                  clear he Rq2 Rq
                  go_wp2_with fail
                  exact ⟨⟨j + 1, by go_num, by omega, HQ.out, Rg2, B6⟩, by simp [intOf]; omega⟩
                · have hjl' : j = K0 := by omega
                  have hlq : ((List.replicate j (1 : Int)) ++ List.replicate (K0 - j) 0) = List.replicate K0 1 := by rw [hjl', Nat.sub_self]; simp
                  rw [hlq] at Rq
                  have n1 : IsNums .i64 wr (.slice (some ⟨g, 0, none⟩) K0 K0) (List.replicate K0 1) := IsNums.of_row (base := 0) (n := K0) (e := 3) (by have := full_row (n := K0) (base := 0) (Nat.zero_le _) (by unfold maxLen; omega) (by simp) Rg; exact this)
                  have n2 : IsNums .i64 wr (.slice (some ⟨q, 0, none⟩) K0 K0) (List.replicate K0 1) := IsNums.of_row (base := 0) (n := K0) (e := 3) (by have := full_row (n := K0) (base := 0) (Nat.zero_le _) (by unfold maxLen; omega) (by simp) Rq; exact this)
                  have I := hide (ints_calls _ _ _ _ wr n1 n2 (by simp; omega) (by simp; omega))
                  rw [decide_eq_true rfl] at I
                  clear n1 n2 Rq Rg
                  go_wp2_with fail
                  refine I.out.mono ?_
                  rintro e w6 ⟨rfl, d, rfl⟩
                  go_wp2
                  go_ret
                  exact ⟨rfl, B5.trans (below_draws d)⟩

end Go.Proofs.YtndhkbmgpjjepaaDoor

/- Steps of a region that draws; rows of structs; rec's Of. Own work; no statement. -/
set_option linter.unusedSimpArgs false
set_option linter.unusedVariables false
namespace Go.Proofs.YtndhkbmgpjjepaaDoor
open Go.RowKit Go.Sort

section
variable {P : Program} {ops : Array Oper} {o : Oper} {a : Act} {w : World} {K : Act → World → Prop} {Q : Exit → Act → World → Prop} {E : Prop}

/-- A call of a Go function by its contract, as a step of a region that draws. -/
theorem step_call (hg : o.guard = none) (f : FuncId) (args : Array Value) {R : Ending → World → Prop} (hrun : (execOp a.eval o).run P w = .ok (.enter f args) w) (hc : Calls P f args w R)
    (hR : ∀ e w', R e w' → ∃ v, e = .returned v ∧ K (a.put o.dst v) w') : if Region.wanted o (yielded ops a.tmps) = true then Oper.wp P o a w K Q else E := by
  rw [if_pos (by simp [Region.wanted, hg])]
  unfold Oper.wp
  rw [hrun]
  simp only [Oper.upon]
  refine hc.mono fun e w' h => ?_
  obtain ⟨v, rfl, hk⟩ := hR e w' h
  exact hk

/-- append to a row of one's own, as such a step. -/
theorem step_append (hg : o.guard = none) (s x : Operand) (t : TypeId) (hop : o.op = Op.call { callee := Callee.builtin Builtin.append, args := #[s, x], argTypes := #[t, t] })
    (base : Nat) (e : TypeId) (i : TypeInfo) (z : Value) (size bytes : Nat) (h1 : P.underlying t = some (.slice e)) (h2 : P.info? e = some i) (h3 : i.zero = some z) (h4 : i.size = size) (h5 : i.bytes = bytes) (h6 : z.cells.size = size) (h7 : 0 < size)
    (v : Value) (n : Nat) (xs : List Value) (hs : a.eval s = v) (hown : w.ownsRow base e size v n xs) (ad : Addr) (m c : Nat) (news : List Value) (hx : a.eval x = .slice (some ad) m c) (hn : news.length = m * size) (hc : ∀ j u, news[j]? = some u → w.cell? (ad.add j) = some u) (h1c : ∀ u ∈ news, u.oneCell' = true)
    (b1 : n + m ≤ maxLen) (b2 : (n + m) * bytes ≤ 140737488355328) (hb : base ≤ w.heap.size)
    (hK : ∀ v' w', w'.ownsRow base e size v' (n + m) (xs ++ news) → w.grownBy w' v.ownBlock → K (a.put o.dst v') w') : if Region.wanted o (yielded ops a.tmps) = true then Oper.wp P o a w K Q else E := by
  rw [if_pos (by simp [Region.wanted, hg])]
  obtain ⟨v', w', hrun, r1, r2, _⟩ := run_append_own (P := P) w base t o.type e i z size bytes h1 h2 h3 h4 h5 h6 h7 v n xs hown ad m c news hn hc h1c b1 b2 hb
  unfold Oper.wp
  simp [execOp, hop, resolve, invoke, builtin, hs, hx, hrun, Result.andThen]
  exact hK v' w' r1 r2
end

/-- At ⟨b, o⟩ there lies the record r. -/
def RecAt (w : World) (b o : Nat) (r : RecD) : Prop :=
  ∃ a cap, w.cell? ⟨b, o, none⟩ = some (.int .i64 r.site) ∧ w.cell? ⟨b, o + 1, none⟩ = some (.int .i64 r.seq) ∧ w.cell? ⟨b, o + 2, none⟩ = some (.slice a r.dep.length cap) ∧ w.cell? ⟨b, o + 3, none⟩ = some (.string r.key) ∧ w.cell? ⟨b, o + 4, none⟩ = some (.string r.val) ∧
    IsNums .i64 w (.slice a r.dep.length cap) r.dep
theorem RecAt.below {w w' : World} {b o : Nat} {r : RecD} (h : RecAt w b o r) (hb : Below w.heap.size w w') : RecAt w' b o r := by
  obtain ⟨a, cap, h0, h1, h2, h3, h4, hn⟩ := h
  have hlt : b < w.heap.size := World.block_lt_of_cell? w _ h0
  exact ⟨a, cap, (hb.cell (p := ⟨b, o, none⟩) hlt).trans h0, (hb.cell (p := ⟨b, o + 1, none⟩) hlt).trans h1, (hb.cell (p := ⟨b, o + 2, none⟩) hlt).trans h2, (hb.cell (p := ⟨b, o + 3, none⟩) hlt).trans h3, (hb.cell (p := ⟨b, o + 4, none⟩) hlt).trans h4, hn.below hb⟩

/-- In the world w the slice v reads as the records l. -/
def IsRecs (w : World) (v : Value) (l : List RecD) : Prop :=
  ∃ a cap, v = .slice a l.length cap ∧ ∀ t (h : t < l.length), ∃ b o, a = some ⟨b, o, none⟩ ∧ RecAt w b (o + t * 5) l[t]
theorem IsRecs.below {w w' : World} {v : Value} {l : List RecD} (h : IsRecs w v l) (hb : Below w.heap.size w w') : IsRecs w' v l := by
  obtain ⟨a, cap, rfl, h⟩ := h
  exact ⟨a, cap, rfl, fun t ht => let ⟨b, o, e, hr⟩ := h t ht; ⟨b, o, e, hr.below hb⟩⟩

/-- A record of a site, its place, and the slice of its numbers. -/
structure Pl where
  i : Int
  r : RecD
  vd : Value
def Pl.cells (p : Pl) : List Value := [.int .i64 p.i, .int .i64 p.r.site, .int .i64 p.r.seq, p.vd, .string p.r.key, .string p.r.val]

/-- The records of a site among the first k, with their places. -/
def placedTo (l : List RecD) (site : Int) : Nat → List (Int × RecD)
  | 0 => []
  | k + 1 => placedTo l site k ++ (match l[k]? with | some r => if r.site = site then [((k : Int), r)] else [] | none => [])

theorem rows_apart {W : World} {B B' : Nat} {e e' : TypeId} {s s' : Nat} {v v' : Value} {n n' : Nat} {xs ys : List Value} (he : e ≠ e') (h : W.ownsRow B e s v n xs) (h' : W.ownsRow B' e' s' v' n' ys) (k : Nat) (hk : v.ownBlock = some k) : v'.ownBlock ≠ some k := by
  intro hk'
  rcases h.2 with ⟨rfl, _⟩ | ⟨g, cap, cur, rfl, _, hg, _⟩
  · cases hk
  · rcases h'.2 with ⟨rfl, _⟩ | ⟨g', cap', cur', rfl, _, hg', _⟩
    · cases hk'
    · have e1 : g = k := by simpa [Value.ownBlock] using hk
      have e2 : g' = k := by simpa [Value.ownBlock] using hk'
      subst e1
      subst e2
      rw [hg] at hg'
      simp only [Option.some.injEq, Obj.cells.injEq] at hg'
      exact he hg'.2.1

end Go.Proofs.YtndhkbmgpjjepaaDoor

/- The laws' Of. Own work; no statement. -/
set_option linter.unusedSimpArgs false
set_option linter.unusedVariables false
namespace Go.Proofs.YtndhkbmgpjjepaaDoor
open Go.RowKit Go.Shelf

/-- In the world w the slice v of the reference's spans reads as the map m. -/
abbrev OwnsR (w : World) (B : Nat) (v : Value) (m : MapD) : Prop := w.ownsRow B 60 2 v m.length (cellsM m)
theorem OwnsR.map {w : World} {B : Nat} {v : Value} {m : MapD} (h : OwnsR w B v m) : IsMap w v m := by
  rcases h.2 with ⟨rfl, h0⟩ | ⟨g, cap, cur, rfl, hb, hg, hnc, hcm, hcs, ht⟩
  · obtain rfl : m = [] := List.eq_nil_of_length_eq_zero h0
    exact IsMap.nil w
  · refine ⟨_, cap, rfl, (fun e => by cases e), fun t ht' => ⟨g, 0, rfl, ?_, ?_⟩⟩
    · rw [Nat.zero_add, h.cellAt _ (by omega)]
      exact (cellsM_get m t ht').1
    · rw [Nat.zero_add, h.cellAt _ (by omega)]
      exact (cellsM_get m t ht').2

theorem Tryd.info60 : (Tryd.prog.info? 60).map (fun i => (i.zero, i.size, i.bytes)) = some (some (.agg #[.int .i64 0, .int .i64 0]), 2, 16) := by kernel_rfl

theorem ownsRow_drew {W : World} {B : Nat} {e : TypeId} {s : Nat} {v : Value} {n : Nat} {xs : List Value} (h : W.ownsRow B e s v n xs) : W.drew.ownsRow B e s v n xs := h

set_option maxHeartbeats 2000000 in
set_option maxRecDepth 100000 in
theorem of5_calls (v : Value) (m : MapD) (w : World) (hv : IsMap w v m) (hl : m.length ≤ 1073741824) :
    Calls Tryd.prog 9 #[v] w fun e w' => ∃ v', e = .returned v' ∧ OwnsR w' w.heap.size v' m ∧ Below w.heap.size w w' := by
  obtain ⟨i0, hi0, hz0, hz1, hz2⟩ := info_parts Tryd.info60
  have Hv := hide hv
  obtain ⟨a, cap, rfl⟩ := hv.slice
  clear hv
  go_enter Tryd.func9, Tryd.ntmps9
  go_wp2_with fail
  go_loopw [3, 4] (fun vo i wr => ∃ k : Nat, i = .int .i64 (k : Int) ∧ k ≤ m.length ∧ wr.ownsRow w.heap.size 60 2 vo k (cellsM (m.take k)) ∧ Below w.heap.size w wr) (fun _ i _ => m.length - (intOf i).toNat)
  case atStart => exact ⟨0, rfl, Nat.zero_le _, World.ownsRow_nil _ _ _ _, Below.refl _ _⟩
  case round =>
    obtain ⟨k, rfl, hk, hown, hB⟩ := hrel
    have hbs := hB.size
    by_cases hlt : k < m.length
    · have hltI : (k : Int) < (m.length : Int) := by omega
      obtain ⟨-, b, o, rfl, hbw, c0, c1⟩ := (Hv.out.below hB).at k hlt
      have hsn : Hid (cellsM (m.take (k + 1)) = cellsM (m.take k) ++ [.int .i64 (m.getD k (0, 0)).1, .int .i64 (m.getD k (0, 0)).2]) := by
        show _ = _
        rw [List.take_add_one, List.getElem?_eq_getElem hlt, Option.toList_some, cellsM_append, getD_get m k hlt]
        rfl
      generalize m.getD k (0, 0) = x at *
      obtain ⟨F, N⟩ := x
      dsimp only at *
      obtain ⟨ao, co, rfl⟩ := ownsRow_slice hown
      go_wp2_with fail
      go_region_law (refine step_append rfl (.tmp 11) (.tmp 23) 25 rfl w.heap.size 60 i0 _ 2 16 Tryd.underlying25 hi0 hz0 hz1 hz2 rfl (by decide) _ k (cellsM (m.take k)) rfl (World.ownsRow.alloc (ownsRow_drew hown) _) ⟨_, 0, none⟩ 1 1 [.int .i64 F, .int .i64 N] rfl rfl (two_new rfl) two_one (by unfold maxLen; omega) (by omega) (by simp; omega) ?_; intro v1 w2 hown1 hgrow1; obtain ⟨g1, cap1, rfl⟩ := ownsRow_succ hown1)
      all_goals
        have hB3 : Below w.heap.size w w2 := ((hB.drew).alloc hB.size _).grown hgrow1 (by simp; omega) (fun j hj => (hown.lt j hj).1)
        go_wp2
        refine ⟨⟨k + 1, by go_num, by omega, ?_, hB3⟩, by simp [intOf]; omega⟩
        rw [hsn.out]
        exact hown1
    · have e : k = m.length := by omega
      subst e
      rw [List.take_length] at hown
      go_wp2
      go_ret
      exact ⟨_, rfl, hown, hB⟩

end Go.Proofs.YtndhkbmgpjjepaaDoor

/- The reference's CheckMap, where all is right. Own work; no statement. -/
set_option linter.unusedSimpArgs false
set_option linter.unusedVariables false
namespace Go.Proofs.YtndhkbmgpjjepaaDoor
open Go.RowKit Go.Shelf

/-- The span at k may stand behind the one ahead. -/
def GoodAt (m : MapD) (k : Nat) : Prop := (k = 0 → (m.getD k (0, 0)).1 = 0) ∧ (0 < k → (m.getD (k - 1) (0, 0)).1 ≤ (m.getD k (0, 0)).1) ∧ 1 ≤ (m.getD k (0, 0)).2 ∧ (m.getD k (0, 0)).2 ≤ 8

end Go.Proofs.YtndhkbmgpjjepaaDoor

/- The reference's CheckMap, where all is right. Own work; no statement. -/
set_option linter.unusedSimpArgs false
set_option linter.unusedVariables false
namespace Go.Proofs.YtndhkbmgpjjepaaDoor
open Go.RowKit Go.Shelf

set_option maxHeartbeats 40000000 in
set_option maxRecDepth 100000 in
theorem refCheckMap_good (v : Value) (m : MapD) (w : World) (hv : IsMap w v m) (hl : m.length ≤ 1099511627776) (h0 : 0 < m.length) (hg : ∀ k, k < m.length → GoodAt m k) :
    Calls Tryd.prog 15 #[v] w fun e w' => e = .returned (.int .i64 0) ∧ ∃ d, w' = w.drewN d := by
  have Hv := hide hv
  obtain ⟨a, cap, rfl⟩ := hv.slice
  clear hv
  have hn : ((m.length : Int) == 0) = false := by rw [beq_eq_false_iff_ne]; omega
  go_enter Tryd.func15, Tryd.ntmps15
  go_wp2_with fail
  go_loopw [3] (fun i wr => ∃ k d : Nat, i = .int .i64 (k : Int) ∧ k ≤ m.length ∧ wr = w.drewN d) (fun i _ => m.length - (intOf i).toNat)
  case atStart => exact ⟨0, 0, rfl, Nat.zero_le _, rfl⟩
  case round =>
    obtain ⟨k, d, rfl, hk, rfl⟩ := hrel
    by_cases hlt : k < m.length
    · have hltI : (k : Int) < (m.length : Int) := by omega
      obtain ⟨-, b, o, rfl, hbw, c0, c1⟩ := Hv.out.at k (by omega)
      have d0 : (w.drewN d).cell? ⟨b, o + k * 2, none⟩ = _ := c0
      have d1 : (w.drewN d).cell? ⟨b, o + k * 2 + 1, none⟩ = _ := c1
      by_cases hk0 : k = 0
      · subst hk0
        simp only [Nat.zero_mul, Nat.add_zero] at c0 c1 d0 d1
        have hz : ((0 : Int) == 0) = true := rfl
        obtain ⟨g1, -, g3, g4⟩ := hg 0 hlt
        replace g1 := g1 rfl
        generalize m.getD 0 (0, 0) = x at *
        obtain ⟨F, N⟩ := x
        dsimp only at *
        subst g1
        have h2 : ¬ N < 1 := by omega
        have h3 : ¬ 8 < N := by omega
        clear hg hk hl h0 hbw
        go_wp2_with fail
        refine wp_region_quiet_lit (by kernel_rfl) (by kernel_rfl) ?_
        first | go_big_quiet_step (fail) | quiet_step (fail)
        first | go_big_quiet_step (fail) | quiet_step (fail)
        first | go_big_quiet_step (fail) | quiet_step (fail)
        first | go_big_quiet_step (fail) | quiet_step (fail)
        first | go_big_quiet_step (fail) | quiet_step (fail)
        first | go_big_quiet_step (fail) | quiet_step (fail)
        first | go_big_quiet_step (fail) | quiet_step (fail)
        first | go_big_quiet_step (fail) | quiet_step (fail)
        first | go_big_quiet_step (fail) | quiet_step (fail)
        first | go_big_quiet_step (fail) | quiet_step (fail)
        first | go_big_quiet_step (fail) | quiet_step (fail)
        first | go_big_quiet_step (fail) | quiet_step (fail)
        first | go_big_quiet_step (fail) | quiet_step (fail)
        first | go_big_quiet_step (fail) | quiet_step (fail)
        first | go_big_quiet_step (fail) | quiet_step (fail)
        first | go_big_quiet_step (fail) | quiet_step (fail)
        first | go_big_quiet_step (fail) | quiet_step (fail)
        first | go_big_quiet_step (fail) | quiet_step (fail)
        first | go_big_quiet_step (fail) | quiet_step (fail)
        first | go_big_quiet_step (fail) | quiet_step (fail)
        first | go_big_quiet_step (fail) | quiet_step (fail)
        first | go_big_quiet_step (fail) | quiet_step (fail)
        first | go_big_quiet_step (fail) | quiet_step (fail)
        first | go_big_quiet_step (fail) | quiet_step (fail)
        first | go_big_quiet_step (fail) | quiet_step (fail)
        first | go_big_quiet_step (fail) | quiet_step (fail)
        first | go_big_quiet_step (fail) | quiet_step (fail)
        first | go_big_quiet_step (fail) | quiet_step (fail)
        first | go_big_quiet_step (fail) | quiet_step (fail)
        first | go_big_quiet_step (fail) | quiet_step (fail)
        first | go_big_quiet_step (fail) | quiet_step (fail)
        first | go_big_quiet_step (fail) | quiet_step (fail)
        first | go_big_quiet_step (fail) | quiet_step (fail)
        first | go_big_quiet_step (fail) | quiet_step (fail)
        first | go_big_quiet_step (fail) | quiet_step (fail)
        first | go_big_quiet_step (fail) | quiet_step (fail)
        first | go_big_quiet_step (fail) | quiet_step (fail)
        first | go_big_quiet_step (fail) | quiet_step (fail)
        first | go_big_quiet_step (fail) | quiet_step (fail)
        first | go_big_quiet_step (fail) | quiet_step (fail)
        first | go_big_quiet_step (fail) | quiet_step (fail)
        first | go_big_quiet_step (fail) | quiet_step (fail)
        first | go_big_quiet_step (fail) | quiet_step (fail)
        first | go_big_quiet_step (fail) | quiet_step (fail)
        refine wpQuiet_nil ?_
        rintro _ ⟨nq, rfl⟩
        go_wp2
        exact ⟨⟨0 + 1, d + nq, by go_num, by omega, rfl⟩, by simp [intOf]; omega⟩
      · obtain ⟨k, rfl⟩ : ∃ i, k = i + 1 := ⟨k - 1, by omega⟩
        obtain ⟨-, b', o', e', -, p0, -⟩ := Hv.out.at k (by omega)
        cases e'
        have p1 : (w.drewN d).cell? ⟨b, o + k * 2, none⟩ = _ := p0
        obtain ⟨-, g2, g3, g4⟩ := hg (k + 1) hlt
        replace g2 := g2 (by omega)
        rw [Nat.add_sub_cancel] at g2
        generalize m.getD (k + 1) (0, 0) = x at *
        generalize (m.getD k (0, 0)).1 = Pv at *
        obtain ⟨F, N⟩ := x
        dsimp only at *
        have hz : (((k : Int) + 1) == 0) = false := by rw [beq_eq_false_iff_ne]; omega
        have hkp : (0 : Int) ≤ (k : Int) + 1 := by omega
        have hkq : (0 : Int) < (k : Int) + 1 := by omega
        have h1 : ¬ F < Pv := by omega
        have h2 : ¬ N < 1 := by omega
        have h3 : ¬ 8 < N := by omega
        clear hg hk hbw hk0
        go_wp2_with fail
        refine wp_region_quiet_lit (by kernel_rfl) (by kernel_rfl) ?_
        first | go_big_quiet_step (fail) | quiet_step (fail)
        first | go_big_quiet_step (fail) | quiet_step (fail)
        first | go_big_quiet_step (fail) | quiet_step (fail)
        first | go_big_quiet_step (fail) | quiet_step (fail)
        first | go_big_quiet_step (fail) | quiet_step (fail)
        first | go_big_quiet_step (fail) | quiet_step (fail)
        first | go_big_quiet_step (fail) | quiet_step (fail)
        first | go_big_quiet_step (fail) | quiet_step (fail)
        first | go_big_quiet_step (fail) | quiet_step (fail)
        first | go_big_quiet_step (fail) | quiet_step (fail)
        first | go_big_quiet_step (fail) | quiet_step (fail)
        first | go_big_quiet_step (fail) | quiet_step (fail)
        first | go_big_quiet_step (fail) | quiet_step (fail)
        first | go_big_quiet_step (fail) | quiet_step (fail)
        first | go_big_quiet_step (fail) | quiet_step (fail)
        first | go_big_quiet_step (fail) | quiet_step (fail)
        first | go_big_quiet_step (fail) | quiet_step (fail)
        first | go_big_quiet_step (fail) | quiet_step (fail)
        first | go_big_quiet_step (fail) | quiet_step (fail)
        first | go_big_quiet_step (fail) | quiet_step (fail)
        first | go_big_quiet_step (fail) | quiet_step (fail)
        first | go_big_quiet_step (fail) | quiet_step (fail)
        first | go_big_quiet_step (fail) | quiet_step (fail)
        first | go_big_quiet_step (fail) | quiet_step (fail)
        first | go_big_quiet_step (fail) | quiet_step (fail)
        first | go_big_quiet_step (fail) | quiet_step (fail)
        first | go_big_quiet_step (fail) | quiet_step (fail)
        first | go_big_quiet_step (fail) | quiet_step (fail)
        first | go_big_quiet_step (fail) | quiet_step (fail)
        first | go_big_quiet_step (fail) | quiet_step (fail)
        first | go_big_quiet_step (fail) | quiet_step (fail)
        first | go_big_quiet_step (fail) | quiet_step (fail)
        first | go_big_quiet_step (fail) | quiet_step (fail)
        first | go_big_quiet_step (fail) | quiet_step (fail)
        first | go_big_quiet_step (fail) | quiet_step (fail)
        first | go_big_quiet_step (fail) | quiet_step (fail)
        first | go_big_quiet_step (fail) | quiet_step (fail)
        first | go_big_quiet_step (fail) | quiet_step (fail)
        first | go_big_quiet_step (fail) | quiet_step (fail)
        first | go_big_quiet_step (fail) | quiet_step (fail)
        first | go_big_quiet_step (fail) | quiet_step (fail)
        first | go_big_quiet_step (fail) | quiet_step (fail)
        first | go_big_quiet_step (fail) | quiet_step (fail)
        first | go_big_quiet_step (fail) | quiet_step (fail)
        refine wpQuiet_nil ?_
        rintro _ ⟨nq, rfl⟩
        go_wp2
        exact ⟨⟨k + 1 + 1, d + nq, by go_num, by omega, rfl⟩, by simp [intOf]; omega⟩
    · have hltI : ¬ (k : Int) < (m.length : Int) := by omega
      go_wp2
      go_ret
      exact ⟨rfl, d, rfl⟩

end Go.Proofs.YtndhkbmgpjjepaaDoor

/- The reference's CheckMap, where the first is wrong. Own work; no statement. -/
set_option linter.unusedSimpArgs false
set_option linter.unusedVariables false
namespace Go.Proofs.YtndhkbmgpjjepaaDoor
open Go.RowKit Go.Shelf

set_option maxHeartbeats 40000000 in
set_option maxRecDepth 100000 in
theorem refCheckMap_first (v : Value) (m : MapD) (w : World) (hv : IsMap w v m) (hl : m.length ≤ 1099511627776) (h0 : 0 < m.length) (hg : ¬ GoodAt m 0) :
    Calls Tryd.prog 15 #[v] w fun e w' => e = .returned (.int .i64 1) ∧ ∃ d, w' = w.drewN d := by
  have Hv := hide hv
  obtain ⟨a, cap, rfl⟩ := hv.slice
  clear hv
  have hn : ((m.length : Int) == 0) = false := by rw [beq_eq_false_iff_ne]; omega
  go_enter Tryd.func15, Tryd.ntmps15
  go_wp2_with fail
  go_loopw [3] (fun i wr => ∃ k d : Nat, i = .int .i64 (k : Int) ∧ k ≤ 0 ∧ wr = w.drewN d) (fun i _ => m.length - (intOf i).toNat)
  case atStart => exact ⟨0, 0, rfl, Nat.zero_le _, rfl⟩
  case round =>
    obtain ⟨k, d, rfl, hk, rfl⟩ := hrel
    obtain rfl : k = 0 := by omega
    have hltI : (0 : Int) < (m.length : Int) := by omega
    obtain ⟨-, b, o, rfl, hbw, c0, c1⟩ := Hv.out.at 0 h0
    have d0 : (w.drewN d).cell? ⟨b, o + 0 * 2, none⟩ = _ := c0
    have d1 : (w.drewN d).cell? ⟨b, o + 0 * 2 + 1, none⟩ = _ := c1
    simp only [Nat.zero_mul, Nat.add_zero] at c0 c1 d0 d1
    have hz : ((0 : Int) == 0) = true := rfl
    unfold GoodAt at hg
    generalize m.getD 0 (0, 0) = x at *
    obtain ⟨F, N⟩ := x
    dsimp only at *
    by_cases h1 : F = 0
    · subst h1
      by_cases h2 : N < 1
      · clear hg hk hl hbw
        go_wp2_with fail
        refine wp_region_quiet_lit (by kernel_rfl) (by kernel_rfl) ?_
        first | go_big_quiet_step (fail) | quiet_step (fail)
        first | go_big_quiet_step (fail) | quiet_step (fail)
        first | go_big_quiet_step (fail) | quiet_step (fail)
        first | go_big_quiet_step (fail) | quiet_step (fail)
        first | go_big_quiet_step (fail) | quiet_step (fail)
        first | go_big_quiet_step (fail) | quiet_step (fail)
        first | go_big_quiet_step (fail) | quiet_step (fail)
        first | go_big_quiet_step (fail) | quiet_step (fail)
        first | go_big_quiet_step (fail) | quiet_step (fail)
        first | go_big_quiet_step (fail) | quiet_step (fail)
        first | go_big_quiet_step (fail) | quiet_step (fail)
        first | go_big_quiet_step (fail) | quiet_step (fail)
        first | go_big_quiet_step (fail) | quiet_step (fail)
        first | go_big_quiet_step (fail) | quiet_step (fail)
        first | go_big_quiet_step (fail) | quiet_step (fail)
        first | go_big_quiet_step (fail) | quiet_step (fail)
        first | go_big_quiet_step (fail) | quiet_step (fail)
        first | go_big_quiet_step (fail) | quiet_step (fail)
        first | go_big_quiet_step (fail) | quiet_step (fail)
        first | go_big_quiet_step (fail) | quiet_step (fail)
        first | go_big_quiet_step (fail) | quiet_step (fail)
        first | go_big_quiet_step (fail) | quiet_step (fail)
        first | go_big_quiet_step (fail) | quiet_step (fail)
        first | go_big_quiet_step (fail) | quiet_step (fail)
        first | go_big_quiet_step (fail) | quiet_step (fail)
        first | go_big_quiet_step (fail) | quiet_step (fail)
        first | go_big_quiet_step (fail) | quiet_step (fail)
        first | go_big_quiet_step (fail) | quiet_step (fail)
        first | go_big_quiet_step (fail) | quiet_step (fail)
        first | go_big_quiet_step (fail) | quiet_step (fail)
        first | go_big_quiet_step (fail) | quiet_step (fail)
        first | go_big_quiet_step (fail) | quiet_step (fail)
        first | go_big_quiet_step (fail) | quiet_step (fail)
        first | go_big_quiet_step (fail) | quiet_step (fail)
        first | go_big_quiet_step (fail) | quiet_step (fail)
        first | go_big_quiet_step (fail) | quiet_step (fail)
        first | go_big_quiet_step (fail) | quiet_step (fail)
        first | go_big_quiet_step (fail) | quiet_step (fail)
        first | go_big_quiet_step (fail) | quiet_step (fail)
        first | go_big_quiet_step (fail) | quiet_step (fail)
        first | go_big_quiet_step (fail) | quiet_step (fail)
        first | go_big_quiet_step (fail) | quiet_step (fail)
        first | go_big_quiet_step (fail) | quiet_step (fail)
        first | go_big_quiet_step (fail) | quiet_step (fail)
        refine wpQuiet_nil ?_
        rintro _ ⟨nq, rfl⟩
        go_wp2
        go_ret
        exact ⟨rfl, d + nq, World.drewN_drewN _ _ _⟩
      · have h3 : 8 < N := by
          refine Decidable.byContradiction fun h => hg ⟨fun _ => rfl, fun h => by omega, by omega, by omega⟩
        clear hg hk hl hbw
        go_wp2_with fail
        refine wp_region_quiet_lit (by kernel_rfl) (by kernel_rfl) ?_
        first | go_big_quiet_step (fail) | quiet_step (fail)
        first | go_big_quiet_step (fail) | quiet_step (fail)
        first | go_big_quiet_step (fail) | quiet_step (fail)
        first | go_big_quiet_step (fail) | quiet_step (fail)
        first | go_big_quiet_step (fail) | quiet_step (fail)
        first | go_big_quiet_step (fail) | quiet_step (fail)
        first | go_big_quiet_step (fail) | quiet_step (fail)
        first | go_big_quiet_step (fail) | quiet_step (fail)
        first | go_big_quiet_step (fail) | quiet_step (fail)
        first | go_big_quiet_step (fail) | quiet_step (fail)
        first | go_big_quiet_step (fail) | quiet_step (fail)
        first | go_big_quiet_step (fail) | quiet_step (fail)
        first | go_big_quiet_step (fail) | quiet_step (fail)
        first | go_big_quiet_step (fail) | quiet_step (fail)
        first | go_big_quiet_step (fail) | quiet_step (fail)
        first | go_big_quiet_step (fail) | quiet_step (fail)
        first | go_big_quiet_step (fail) | quiet_step (fail)
        first | go_big_quiet_step (fail) | quiet_step (fail)
        first | go_big_quiet_step (fail) | quiet_step (fail)
        first | go_big_quiet_step (fail) | quiet_step (fail)
        first | go_big_quiet_step (fail) | quiet_step (fail)
        first | go_big_quiet_step (fail) | quiet_step (fail)
        first | go_big_quiet_step (fail) | quiet_step (fail)
        first | go_big_quiet_step (fail) | quiet_step (fail)
        first | go_big_quiet_step (fail) | quiet_step (fail)
        first | go_big_quiet_step (fail) | quiet_step (fail)
        first | go_big_quiet_step (fail) | quiet_step (fail)
        first | go_big_quiet_step (fail) | quiet_step (fail)
        first | go_big_quiet_step (fail) | quiet_step (fail)
        first | go_big_quiet_step (fail) | quiet_step (fail)
        first | go_big_quiet_step (fail) | quiet_step (fail)
        first | go_big_quiet_step (fail) | quiet_step (fail)
        first | go_big_quiet_step (fail) | quiet_step (fail)
        first | go_big_quiet_step (fail) | quiet_step (fail)
        first | go_big_quiet_step (fail) | quiet_step (fail)
        first | go_big_quiet_step (fail) | quiet_step (fail)
        first | go_big_quiet_step (fail) | quiet_step (fail)
        first | go_big_quiet_step (fail) | quiet_step (fail)
        first | go_big_quiet_step (fail) | quiet_step (fail)
        first | go_big_quiet_step (fail) | quiet_step (fail)
        first | go_big_quiet_step (fail) | quiet_step (fail)
        first | go_big_quiet_step (fail) | quiet_step (fail)
        first | go_big_quiet_step (fail) | quiet_step (fail)
        first | go_big_quiet_step (fail) | quiet_step (fail)
        refine wpQuiet_nil ?_
        rintro _ ⟨nq, rfl⟩
        go_wp2
        go_ret
        exact ⟨rfl, d + nq, World.drewN_drewN _ _ _⟩
    · have h1b : (F == 0) = false := by rw [beq_eq_false_iff_ne]; exact h1
      clear hg hk hl hbw
      go_wp2_with fail
      refine wp_region_quiet_lit (by kernel_rfl) (by kernel_rfl) ?_
      first | go_big_quiet_step (fail) | quiet_step (fail)
      first | go_big_quiet_step (fail) | quiet_step (fail)
      first | go_big_quiet_step (fail) | quiet_step (fail)
      first | go_big_quiet_step (fail) | quiet_step (fail)
      first | go_big_quiet_step (fail) | quiet_step (fail)
      first | go_big_quiet_step (fail) | quiet_step (fail)
      first | go_big_quiet_step (fail) | quiet_step (fail)
      first | go_big_quiet_step (fail) | quiet_step (fail)
      first | go_big_quiet_step (fail) | quiet_step (fail)
      first | go_big_quiet_step (fail) | quiet_step (fail)
      first | go_big_quiet_step (fail) | quiet_step (fail)
      first | go_big_quiet_step (fail) | quiet_step (fail)
      first | go_big_quiet_step (fail) | quiet_step (fail)
      first | go_big_quiet_step (fail) | quiet_step (fail)
      first | go_big_quiet_step (fail) | quiet_step (fail)
      first | go_big_quiet_step (fail) | quiet_step (fail)
      first | go_big_quiet_step (fail) | quiet_step (fail)
      first | go_big_quiet_step (fail) | quiet_step (fail)
      first | go_big_quiet_step (fail) | quiet_step (fail)
      first | go_big_quiet_step (fail) | quiet_step (fail)
      first | go_big_quiet_step (fail) | quiet_step (fail)
      first | go_big_quiet_step (fail) | quiet_step (fail)
      first | go_big_quiet_step (fail) | quiet_step (fail)
      first | go_big_quiet_step (fail) | quiet_step (fail)
      first | go_big_quiet_step (fail) | quiet_step (fail)
      first | go_big_quiet_step (fail) | quiet_step (fail)
      first | go_big_quiet_step (fail) | quiet_step (fail)
      first | go_big_quiet_step (fail) | quiet_step (fail)
      first | go_big_quiet_step (fail) | quiet_step (fail)
      first | go_big_quiet_step (fail) | quiet_step (fail)
      first | go_big_quiet_step (fail) | quiet_step (fail)
      first | go_big_quiet_step (fail) | quiet_step (fail)
      first | go_big_quiet_step (fail) | quiet_step (fail)
      first | go_big_quiet_step (fail) | quiet_step (fail)
      first | go_big_quiet_step (fail) | quiet_step (fail)
      first | go_big_quiet_step (fail) | quiet_step (fail)
      first | go_big_quiet_step (fail) | quiet_step (fail)
      first | go_big_quiet_step (fail) | quiet_step (fail)
      first | go_big_quiet_step (fail) | quiet_step (fail)
      first | go_big_quiet_step (fail) | quiet_step (fail)
      first | go_big_quiet_step (fail) | quiet_step (fail)
      first | go_big_quiet_step (fail) | quiet_step (fail)
      first | go_big_quiet_step (fail) | quiet_step (fail)
      first | go_big_quiet_step (fail) | quiet_step (fail)
      refine wpQuiet_nil ?_
      rintro _ ⟨nq, rfl⟩
      go_wp2
      go_ret
      exact ⟨rfl, d + nq, World.drewN_drewN _ _ _⟩

end Go.Proofs.YtndhkbmgpjjepaaDoor

/- The reference's CheckMap, where a later one is wrong. Own work; no statement. -/
set_option linter.unusedSimpArgs false
set_option linter.unusedVariables false
namespace Go.Proofs.YtndhkbmgpjjepaaDoor
open Go.RowKit Go.Shelf

set_option maxHeartbeats 40000000 in
set_option maxRecDepth 100000 in
theorem refCheckMap_later (v : Value) (m : MapD) (w : World) (hv : IsMap w v m) (hl : m.length ≤ 1099511627776) (j : Nat) (hj : j + 1 < m.length) (hg : ∀ k, k < j + 1 → GoodAt m k) (hb : ¬ GoodAt m (j + 1)) :
    Calls Tryd.prog 15 #[v] w fun e w' => e = .returned (.int .i64 1) ∧ ∃ d, w' = w.drewN d := by
  have Hv := hide hv
  obtain ⟨a, cap, rfl⟩ := hv.slice
  clear hv
  have hn : ((m.length : Int) == 0) = false := by rw [beq_eq_false_iff_ne]; omega
  go_enter Tryd.func15, Tryd.ntmps15
  go_wp2_with fail
  go_loopw [3] (fun i wr => ∃ k d : Nat, i = .int .i64 (k : Int) ∧ k ≤ j + 1 ∧ wr = w.drewN d) (fun i _ => m.length - (intOf i).toNat)
  case atStart => exact ⟨0, 0, rfl, Nat.zero_le _, rfl⟩
  case round =>
    obtain ⟨k, d, rfl, hk, rfl⟩ := hrel
    by_cases hlt : k < j + 1
    · have hltI : (k : Int) < (m.length : Int) := by omega
      obtain ⟨-, b, o, rfl, hbw, c0, c1⟩ := Hv.out.at k (by omega)
      have d0 : (w.drewN d).cell? ⟨b, o + k * 2, none⟩ = _ := c0
      have d1 : (w.drewN d).cell? ⟨b, o + k * 2 + 1, none⟩ = _ := c1
      by_cases hk0 : k = 0
      · subst hk0
        simp only [Nat.zero_mul, Nat.add_zero] at c0 c1 d0 d1
        have hz : ((0 : Int) == 0) = true := rfl
        obtain ⟨g1, -, g3, g4⟩ := hg 0 hlt
        replace g1 := g1 rfl
        generalize m.getD 0 (0, 0) = x at *
        obtain ⟨F, N⟩ := x
        dsimp only at *
        subst g1
        have h2 : ¬ N < 1 := by omega
        have h3 : ¬ 8 < N := by omega
        clear hg hb hk hl hbw
        go_wp2_with fail
        refine wp_region_quiet_lit (by kernel_rfl) (by kernel_rfl) ?_
        first | go_big_quiet_step (fail) | quiet_step (fail)
        first | go_big_quiet_step (fail) | quiet_step (fail)
        first | go_big_quiet_step (fail) | quiet_step (fail)
        first | go_big_quiet_step (fail) | quiet_step (fail)
        first | go_big_quiet_step (fail) | quiet_step (fail)
        first | go_big_quiet_step (fail) | quiet_step (fail)
        first | go_big_quiet_step (fail) | quiet_step (fail)
        first | go_big_quiet_step (fail) | quiet_step (fail)
        first | go_big_quiet_step (fail) | quiet_step (fail)
        first | go_big_quiet_step (fail) | quiet_step (fail)
        first | go_big_quiet_step (fail) | quiet_step (fail)
        first | go_big_quiet_step (fail) | quiet_step (fail)
        first | go_big_quiet_step (fail) | quiet_step (fail)
        first | go_big_quiet_step (fail) | quiet_step (fail)
        first | go_big_quiet_step (fail) | quiet_step (fail)
        first | go_big_quiet_step (fail) | quiet_step (fail)
        first | go_big_quiet_step (fail) | quiet_step (fail)
        first | go_big_quiet_step (fail) | quiet_step (fail)
        first | go_big_quiet_step (fail) | quiet_step (fail)
        first | go_big_quiet_step (fail) | quiet_step (fail)
        first | go_big_quiet_step (fail) | quiet_step (fail)
        first | go_big_quiet_step (fail) | quiet_step (fail)
        first | go_big_quiet_step (fail) | quiet_step (fail)
        first | go_big_quiet_step (fail) | quiet_step (fail)
        first | go_big_quiet_step (fail) | quiet_step (fail)
        first | go_big_quiet_step (fail) | quiet_step (fail)
        first | go_big_quiet_step (fail) | quiet_step (fail)
        first | go_big_quiet_step (fail) | quiet_step (fail)
        first | go_big_quiet_step (fail) | quiet_step (fail)
        first | go_big_quiet_step (fail) | quiet_step (fail)
        first | go_big_quiet_step (fail) | quiet_step (fail)
        first | go_big_quiet_step (fail) | quiet_step (fail)
        first | go_big_quiet_step (fail) | quiet_step (fail)
        first | go_big_quiet_step (fail) | quiet_step (fail)
        first | go_big_quiet_step (fail) | quiet_step (fail)
        first | go_big_quiet_step (fail) | quiet_step (fail)
        first | go_big_quiet_step (fail) | quiet_step (fail)
        first | go_big_quiet_step (fail) | quiet_step (fail)
        first | go_big_quiet_step (fail) | quiet_step (fail)
        first | go_big_quiet_step (fail) | quiet_step (fail)
        first | go_big_quiet_step (fail) | quiet_step (fail)
        first | go_big_quiet_step (fail) | quiet_step (fail)
        first | go_big_quiet_step (fail) | quiet_step (fail)
        first | go_big_quiet_step (fail) | quiet_step (fail)
        refine wpQuiet_nil ?_
        rintro _ ⟨nq, rfl⟩
        go_wp2
        exact ⟨⟨0 + 1, d + nq, by go_num, by omega, rfl⟩, by simp [intOf]; omega⟩
      · obtain ⟨k, rfl⟩ : ∃ i, k = i + 1 := ⟨k - 1, by omega⟩
        obtain ⟨-, b', o', e', -, p0, -⟩ := Hv.out.at k (by omega)
        cases e'
        have p1 : (w.drewN d).cell? ⟨b, o + k * 2, none⟩ = _ := p0
        obtain ⟨-, g2, g3, g4⟩ := hg (k + 1) hlt
        replace g2 := g2 (by omega)
        rw [Nat.add_sub_cancel] at g2
        generalize m.getD (k + 1) (0, 0) = x at *
        generalize (m.getD k (0, 0)).1 = Pv at *
        obtain ⟨F, N⟩ := x
        dsimp only at *
        have hz : (((k : Int) + 1) == 0) = false := by rw [beq_eq_false_iff_ne]; omega
        have hkp : (0 : Int) ≤ (k : Int) + 1 := by omega
        have hkq : (0 : Int) < (k : Int) + 1 := by omega
        have h1 : ¬ F < Pv := by omega
        have h2 : ¬ N < 1 := by omega
        have h3 : ¬ 8 < N := by omega
        clear hg hb hk hbw hk0
        go_wp2_with fail
        refine wp_region_quiet_lit (by kernel_rfl) (by kernel_rfl) ?_
        first | go_big_quiet_step (fail) | quiet_step (fail)
        first | go_big_quiet_step (fail) | quiet_step (fail)
        first | go_big_quiet_step (fail) | quiet_step (fail)
        first | go_big_quiet_step (fail) | quiet_step (fail)
        first | go_big_quiet_step (fail) | quiet_step (fail)
        first | go_big_quiet_step (fail) | quiet_step (fail)
        first | go_big_quiet_step (fail) | quiet_step (fail)
        first | go_big_quiet_step (fail) | quiet_step (fail)
        first | go_big_quiet_step (fail) | quiet_step (fail)
        first | go_big_quiet_step (fail) | quiet_step (fail)
        first | go_big_quiet_step (fail) | quiet_step (fail)
        first | go_big_quiet_step (fail) | quiet_step (fail)
        first | go_big_quiet_step (fail) | quiet_step (fail)
        first | go_big_quiet_step (fail) | quiet_step (fail)
        first | go_big_quiet_step (fail) | quiet_step (fail)
        first | go_big_quiet_step (fail) | quiet_step (fail)
        first | go_big_quiet_step (fail) | quiet_step (fail)
        first | go_big_quiet_step (fail) | quiet_step (fail)
        first | go_big_quiet_step (fail) | quiet_step (fail)
        first | go_big_quiet_step (fail) | quiet_step (fail)
        first | go_big_quiet_step (fail) | quiet_step (fail)
        first | go_big_quiet_step (fail) | quiet_step (fail)
        first | go_big_quiet_step (fail) | quiet_step (fail)
        first | go_big_quiet_step (fail) | quiet_step (fail)
        first | go_big_quiet_step (fail) | quiet_step (fail)
        first | go_big_quiet_step (fail) | quiet_step (fail)
        first | go_big_quiet_step (fail) | quiet_step (fail)
        first | go_big_quiet_step (fail) | quiet_step (fail)
        first | go_big_quiet_step (fail) | quiet_step (fail)
        first | go_big_quiet_step (fail) | quiet_step (fail)
        first | go_big_quiet_step (fail) | quiet_step (fail)
        first | go_big_quiet_step (fail) | quiet_step (fail)
        first | go_big_quiet_step (fail) | quiet_step (fail)
        first | go_big_quiet_step (fail) | quiet_step (fail)
        first | go_big_quiet_step (fail) | quiet_step (fail)
        first | go_big_quiet_step (fail) | quiet_step (fail)
        first | go_big_quiet_step (fail) | quiet_step (fail)
        first | go_big_quiet_step (fail) | quiet_step (fail)
        first | go_big_quiet_step (fail) | quiet_step (fail)
        first | go_big_quiet_step (fail) | quiet_step (fail)
        first | go_big_quiet_step (fail) | quiet_step (fail)
        first | go_big_quiet_step (fail) | quiet_step (fail)
        first | go_big_quiet_step (fail) | quiet_step (fail)
        first | go_big_quiet_step (fail) | quiet_step (fail)
        refine wpQuiet_nil ?_
        rintro _ ⟨nq, rfl⟩
        go_wp2
        exact ⟨⟨k + 1 + 1, d + nq, by go_num, by omega, rfl⟩, by simp [intOf]; omega⟩
    · obtain rfl : k = j + 1 := by omega
      have hltI : (j : Int) + 1 < (m.length : Int) := by omega
      obtain ⟨-, b, o, rfl, hbw, c0, c1⟩ := Hv.out.at (j + 1) hj
      have d0 : (w.drewN d).cell? ⟨b, o + (j + 1) * 2, none⟩ = _ := c0
      have d1 : (w.drewN d).cell? ⟨b, o + (j + 1) * 2 + 1, none⟩ = _ := c1
      obtain ⟨-, b', o', e', -, p0, -⟩ := Hv.out.at j (by omega)
      cases e'
      have p1 : (w.drewN d).cell? ⟨b, o + j * 2, none⟩ = _ := p0
      unfold GoodAt at hb
      rw [Nat.add_sub_cancel] at hb
      generalize m.getD (j + 1) (0, 0) = x at *
      generalize (m.getD j (0, 0)).1 = Pv at *
      obtain ⟨F, N⟩ := x
      dsimp only at *
      have hz : (((j : Int) + 1) == 0) = false := by rw [beq_eq_false_iff_ne]; omega
      have hkp : (0 : Int) ≤ (j : Int) + 1 := by omega
      have hkq : (0 : Int) < (j : Int) + 1 := by omega
      by_cases h1 : F < Pv
      · clear hg hb hk hbw hlt
        go_wp2_with fail
        refine wp_region_quiet_lit (by kernel_rfl) (by kernel_rfl) ?_
        first | go_big_quiet_step (fail) | quiet_step (fail)
        first | go_big_quiet_step (fail) | quiet_step (fail)
        first | go_big_quiet_step (fail) | quiet_step (fail)
        first | go_big_quiet_step (fail) | quiet_step (fail)
        first | go_big_quiet_step (fail) | quiet_step (fail)
        first | go_big_quiet_step (fail) | quiet_step (fail)
        first | go_big_quiet_step (fail) | quiet_step (fail)
        first | go_big_quiet_step (fail) | quiet_step (fail)
        first | go_big_quiet_step (fail) | quiet_step (fail)
        first | go_big_quiet_step (fail) | quiet_step (fail)
        first | go_big_quiet_step (fail) | quiet_step (fail)
        first | go_big_quiet_step (fail) | quiet_step (fail)
        first | go_big_quiet_step (fail) | quiet_step (fail)
        first | go_big_quiet_step (fail) | quiet_step (fail)
        first | go_big_quiet_step (fail) | quiet_step (fail)
        first | go_big_quiet_step (fail) | quiet_step (fail)
        first | go_big_quiet_step (fail) | quiet_step (fail)
        first | go_big_quiet_step (fail) | quiet_step (fail)
        first | go_big_quiet_step (fail) | quiet_step (fail)
        first | go_big_quiet_step (fail) | quiet_step (fail)
        first | go_big_quiet_step (fail) | quiet_step (fail)
        first | go_big_quiet_step (fail) | quiet_step (fail)
        first | go_big_quiet_step (fail) | quiet_step (fail)
        first | go_big_quiet_step (fail) | quiet_step (fail)
        first | go_big_quiet_step (fail) | quiet_step (fail)
        first | go_big_quiet_step (fail) | quiet_step (fail)
        first | go_big_quiet_step (fail) | quiet_step (fail)
        first | go_big_quiet_step (fail) | quiet_step (fail)
        first | go_big_quiet_step (fail) | quiet_step (fail)
        first | go_big_quiet_step (fail) | quiet_step (fail)
        first | go_big_quiet_step (fail) | quiet_step (fail)
        first | go_big_quiet_step (fail) | quiet_step (fail)
        first | go_big_quiet_step (fail) | quiet_step (fail)
        first | go_big_quiet_step (fail) | quiet_step (fail)
        first | go_big_quiet_step (fail) | quiet_step (fail)
        first | go_big_quiet_step (fail) | quiet_step (fail)
        first | go_big_quiet_step (fail) | quiet_step (fail)
        first | go_big_quiet_step (fail) | quiet_step (fail)
        first | go_big_quiet_step (fail) | quiet_step (fail)
        first | go_big_quiet_step (fail) | quiet_step (fail)
        first | go_big_quiet_step (fail) | quiet_step (fail)
        first | go_big_quiet_step (fail) | quiet_step (fail)
        first | go_big_quiet_step (fail) | quiet_step (fail)
        first | go_big_quiet_step (fail) | quiet_step (fail)
        refine wpQuiet_nil ?_
        rintro _ ⟨nq, rfl⟩
        go_wp2
        go_ret
        exact ⟨rfl, d + nq, World.drewN_drewN _ _ _⟩
      · by_cases h2 : N < 1
        · clear hg hb hk hbw hlt
          go_wp2_with fail
          refine wp_region_quiet_lit (by kernel_rfl) (by kernel_rfl) ?_
          first | go_big_quiet_step (fail) | quiet_step (fail)
          first | go_big_quiet_step (fail) | quiet_step (fail)
          first | go_big_quiet_step (fail) | quiet_step (fail)
          first | go_big_quiet_step (fail) | quiet_step (fail)
          first | go_big_quiet_step (fail) | quiet_step (fail)
          first | go_big_quiet_step (fail) | quiet_step (fail)
          first | go_big_quiet_step (fail) | quiet_step (fail)
          first | go_big_quiet_step (fail) | quiet_step (fail)
          first | go_big_quiet_step (fail) | quiet_step (fail)
          first | go_big_quiet_step (fail) | quiet_step (fail)
          first | go_big_quiet_step (fail) | quiet_step (fail)
          first | go_big_quiet_step (fail) | quiet_step (fail)
          first | go_big_quiet_step (fail) | quiet_step (fail)
          first | go_big_quiet_step (fail) | quiet_step (fail)
          first | go_big_quiet_step (fail) | quiet_step (fail)
          first | go_big_quiet_step (fail) | quiet_step (fail)
          first | go_big_quiet_step (fail) | quiet_step (fail)
          first | go_big_quiet_step (fail) | quiet_step (fail)
          first | go_big_quiet_step (fail) | quiet_step (fail)
          first | go_big_quiet_step (fail) | quiet_step (fail)
          first | go_big_quiet_step (fail) | quiet_step (fail)
          first | go_big_quiet_step (fail) | quiet_step (fail)
          first | go_big_quiet_step (fail) | quiet_step (fail)
          first | go_big_quiet_step (fail) | quiet_step (fail)
          first | go_big_quiet_step (fail) | quiet_step (fail)
          first | go_big_quiet_step (fail) | quiet_step (fail)
          first | go_big_quiet_step (fail) | quiet_step (fail)
          first | go_big_quiet_step (fail) | quiet_step (fail)
          first | go_big_quiet_step (fail) | quiet_step (fail)
          first | go_big_quiet_step (fail) | quiet_step (fail)
          first | go_big_quiet_step (fail) | quiet_step (fail)
          first | go_big_quiet_step (fail) | quiet_step (fail)
          first | go_big_quiet_step (fail) | quiet_step (fail)
          first | go_big_quiet_step (fail) | quiet_step (fail)
          first | go_big_quiet_step (fail) | quiet_step (fail)
          first | go_big_quiet_step (fail) | quiet_step (fail)
          first | go_big_quiet_step (fail) | quiet_step (fail)
          first | go_big_quiet_step (fail) | quiet_step (fail)
          first | go_big_quiet_step (fail) | quiet_step (fail)
          first | go_big_quiet_step (fail) | quiet_step (fail)
          first | go_big_quiet_step (fail) | quiet_step (fail)
          first | go_big_quiet_step (fail) | quiet_step (fail)
          first | go_big_quiet_step (fail) | quiet_step (fail)
          first | go_big_quiet_step (fail) | quiet_step (fail)
          refine wpQuiet_nil ?_
          rintro _ ⟨nq, rfl⟩
          go_wp2
          go_ret
          exact ⟨rfl, d + nq, World.drewN_drewN _ _ _⟩
        · have h3 : 8 < N := by
            refine Decidable.byContradiction fun h => hb ⟨fun h => by omega, fun _ => by omega, by omega, by omega⟩
          clear hg hb hk hbw hlt
          go_wp2_with fail
          refine wp_region_quiet_lit (by kernel_rfl) (by kernel_rfl) ?_
          first | go_big_quiet_step (fail) | quiet_step (fail)
          first | go_big_quiet_step (fail) | quiet_step (fail)
          first | go_big_quiet_step (fail) | quiet_step (fail)
          first | go_big_quiet_step (fail) | quiet_step (fail)
          first | go_big_quiet_step (fail) | quiet_step (fail)
          first | go_big_quiet_step (fail) | quiet_step (fail)
          first | go_big_quiet_step (fail) | quiet_step (fail)
          first | go_big_quiet_step (fail) | quiet_step (fail)
          first | go_big_quiet_step (fail) | quiet_step (fail)
          first | go_big_quiet_step (fail) | quiet_step (fail)
          first | go_big_quiet_step (fail) | quiet_step (fail)
          first | go_big_quiet_step (fail) | quiet_step (fail)
          first | go_big_quiet_step (fail) | quiet_step (fail)
          first | go_big_quiet_step (fail) | quiet_step (fail)
          first | go_big_quiet_step (fail) | quiet_step (fail)
          first | go_big_quiet_step (fail) | quiet_step (fail)
          first | go_big_quiet_step (fail) | quiet_step (fail)
          first | go_big_quiet_step (fail) | quiet_step (fail)
          first | go_big_quiet_step (fail) | quiet_step (fail)
          first | go_big_quiet_step (fail) | quiet_step (fail)
          first | go_big_quiet_step (fail) | quiet_step (fail)
          first | go_big_quiet_step (fail) | quiet_step (fail)
          first | go_big_quiet_step (fail) | quiet_step (fail)
          first | go_big_quiet_step (fail) | quiet_step (fail)
          first | go_big_quiet_step (fail) | quiet_step (fail)
          first | go_big_quiet_step (fail) | quiet_step (fail)
          first | go_big_quiet_step (fail) | quiet_step (fail)
          first | go_big_quiet_step (fail) | quiet_step (fail)
          first | go_big_quiet_step (fail) | quiet_step (fail)
          first | go_big_quiet_step (fail) | quiet_step (fail)
          first | go_big_quiet_step (fail) | quiet_step (fail)
          first | go_big_quiet_step (fail) | quiet_step (fail)
          first | go_big_quiet_step (fail) | quiet_step (fail)
          first | go_big_quiet_step (fail) | quiet_step (fail)
          first | go_big_quiet_step (fail) | quiet_step (fail)
          first | go_big_quiet_step (fail) | quiet_step (fail)
          first | go_big_quiet_step (fail) | quiet_step (fail)
          first | go_big_quiet_step (fail) | quiet_step (fail)
          first | go_big_quiet_step (fail) | quiet_step (fail)
          first | go_big_quiet_step (fail) | quiet_step (fail)
          first | go_big_quiet_step (fail) | quiet_step (fail)
          first | go_big_quiet_step (fail) | quiet_step (fail)
          first | go_big_quiet_step (fail) | quiet_step (fail)
          first | go_big_quiet_step (fail) | quiet_step (fail)
          refine wpQuiet_nil ?_
          rintro _ ⟨nq, rfl⟩
          go_wp2
          go_ret
          exact ⟨rfl, d + nq, World.drewN_drewN _ _ _⟩

end Go.Proofs.YtndhkbmgpjjepaaDoor
