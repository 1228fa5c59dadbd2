/- The laws' Pairs: what a range over pairs of numbers tells. Own work; no statement. -/
import Derived.Test.YtepadjcmmkglfabDoorW9
set_option linter.unusedSimpArgs false
set_option linter.unusedVariables false
namespace Go.Proofs.YtepadjcmmkglfabDoor
open Go.RowKit Go.Shelf

attribute [local go_sem] Oper.semAt_some

set_option maxRecDepth 100000 in
set_option maxHeartbeats 4000000 in
theorem pairs_calls (Bs g : Nat) (l : List Int) (most : Nat) (w : World) (hA : IsAll w Bs g l) (hl : l.length ≤ most) (hm : most ≤ 1048576) :
    Calls Tryd.prog 14 #[.func (.func 40) #[] #[.pointer (some ⟨Bs, 0, none⟩)], .int .i64 (most : Int)] w fun e w' => ∃ va vb, e = .returned (.tuple #[va, vb, .bool true]) ∧
      IsNums .i64 w' va ((pairsTo l l.length).map (·.1)) ∧ IsNums .i64 w' vb ((pairsTo l l.length).map (·.2)) ∧ Below w.heap.size w w' := by
  have heq : ∀ (fn : Fn) (first cap : Array Value) (w : World), (binOp .eql 35 (.func fn first cap) .nilFunc).run Tryd.prog w = .ok (.bool false) w := fun _ _ _ _ => by kernel_rfl
  obtain ⟨i0, hi, hz0, hz1, hz2⟩ := info_parts Tryd.info3
  refine (callsIn_wide (n := 5)).1 ?_
  refine callsIn_of_wp_marks Tryd.func14 rfl trivial ?_ rfl
  simp only [Tryd.ntmps14, List.size_toArray, List.length_cons, List.length_nil, Nat.reduceAdd, Nat.reduceSub, Array.replicate_succ, Array.replicate_zero, List.push_toArray, List.append_toArray, List.nil_append, List.cons_append]
  gi_wp2
  have b0 := Boxed.new w 3 (.int .i64 (most : Int))
  obtain ⟨w1, hw1⟩ : ∃ w1, w.alloc (.cells #[.int .i64 (most : Int)] 3) = w1 := ⟨_, rfl⟩
  have s1 : w1.heap.size = w.heap.size + 1 := by rw [← hw1]; simp
  have b1 := Boxed.new w1 23 (.slice none 0 0)
  obtain ⟨w2, hw2⟩ : ∃ w2, w1.alloc (.cells #[.slice none 0 0] 23) = w2 := ⟨_, rfl⟩
  have s2 : w2.heap.size = w.heap.size + 2 := by rw [← hw2]; simp [s1]
  have b2 := Boxed.new w2 23 (.slice none 0 0)
  obtain ⟨w3, hw3⟩ : ∃ w3, w2.alloc (.cells #[.slice none 0 0] 23) = w3 := ⟨_, rfl⟩
  have s3 : w3.heap.size = w.heap.size + 3 := by rw [← hw3]; simp [s2]
  have b3 := Boxed.new w3 4 (.bool false)
  obtain ⟨w4, hw4⟩ : ∃ w4, w3.alloc (.cells #[.bool false] 4) = w4 := ⟨_, rfl⟩
  have s4 : w4.heap.size = w.heap.size + 4 := by rw [← hw4]; simp [s3]
  have b4 := Boxed.new w4 23 (.slice none 0 0)
  obtain ⟨w5, hw5⟩ : ∃ w5, w4.alloc (.cells #[.slice none 0 0] 23) = w5 := ⟨_, rfl⟩
  have s5 : w5.heap.size = w.heap.size + 5 := by rw [← hw5]; simp [s4]
  have b5 := Boxed.new w5 23 (.slice none 0 0)
  obtain ⟨w6, hw6⟩ : ∃ w6, w5.alloc (.cells #[.slice none 0 0] 23) = w6 := ⟨_, rfl⟩
  have s6 : w6.heap.size = w.heap.size + 6 := by rw [← hw6]; simp [s5]
  rw [hw1] at b0
  rw [hw2] at b1
  rw [hw3] at b2
  rw [hw4] at b3
  rw [hw5] at b4
  rw [hw6] at b5
  replace b0 : Boxed w6 w.heap.size 3 (.int .i64 (most : Int)) := by rw [← hw6, ← hw5, ← hw4, ← hw3, ← hw2]; exact ((((b0.alloc _).alloc _).alloc _).alloc _).alloc _
  replace b1 : Boxed w6 (w.heap.size + 1) 23 (.slice none 0 0) := by rw [s1] at b1; rw [← hw6, ← hw5, ← hw4, ← hw3]; exact (((b1.alloc _).alloc _).alloc _).alloc _
  replace b2 : Boxed w6 (w.heap.size + 2) 23 (.slice none 0 0) := by rw [s2] at b2; rw [← hw6, ← hw5, ← hw4]; exact ((b2.alloc _).alloc _).alloc _
  replace b3 : Boxed w6 (w.heap.size + 3) 4 (.bool false) := by rw [s3] at b3; rw [← hw6, ← hw5]; exact (b3.alloc _).alloc _
  replace b4 : Boxed w6 (w.heap.size + 4) 23 (.slice none 0 0) := by rw [s4] at b4; rw [← hw6]; exact b4.alloc _
  replace b5 : Boxed w6 (w.heap.size + 5) 23 (.slice none 0 0) := by rw [s5] at b5; exact b5
  have hB6 : Below w.heap.size w w6 := by
    rw [← hw6, ← hw5, ← hw4, ← hw3, ← hw2, ← hw1]
    exact ((((((Below.refl _ w).alloc (Nat.le_refl _) _).alloc (by simp) _).alloc (by simp; omega) _).alloc (by simp; omega) _).alloc (by simp; omega) _).alloc (by simp; omega) _
  rw [hw1, hw2, hw3, hw4, hw5, hw6]
  clear hw1 hw2 hw3 hw4 hw5 hw6 s1 s2 s3 s4 s5 w1 w2 w3 w4 w5
  simp only [Nat.add_assoc, Nat.reduceAdd]
  have hA6 := hA.below hB6
  have hgw : g < w.heap.size := hA.1
  refine wpIn_rangeFunc_ownG rfl (by decide) (gf := 40) (lb := #[.pointer (some ⟨Bs, 0, none⟩)]) rfl trivial (enters_of Tryd.func40 (by kernel_rfl) rfl)
    (all_stops 4 (by decide) Bs g l (by omega) w6 hA6) keepsRow_t (keepsRow_b hA6.1) (Below.refl _ _) (fun _ => rfl)
    (fun pre W => (∃ va vb, Two W (w.heap.size + 1) 23 3 (w.heap.size + 4) (w.heap.size + 5) va vb pre.length pre.length (pre.map fun p => .int .i64 p.1) (pre.map fun p => .int .i64 p.2) ∧
        Boxed W w.heap.size 3 (.int .i64 (most : Int)) ∧ Boxed W (w.heap.size + 1) 23 (.slice none 0 0) ∧ Boxed W (w.heap.size + 2) 23 (.slice none 0 0) ∧ Boxed W (w.heap.size + 3) 4 (.bool false)) ∧ Below w.heap.size w W)
    (fun _ _ _ => False)
    (OwnFrom.and (Own.from (fun s X Y row hs hg hr => by
      obtain ⟨va, vb, h1, h6, h7, h8, h9⟩ := hs
      exact ⟨va, vb, h1.own hg hr, boxed_own' hg hr h6, boxed_own' hg hr h7, boxed_own' hg hr h8, boxed_own' hg hr h9⟩) _) (ownFrom_below (Nat.le_refl _) (by omega)))
    (fun _ _ _ _ _ hs _ _ => hs)
    ⟨⟨_, _, ⟨b4, b5, World.ownsRow_nil _ _ _ _, World.ownsRow_nil _ _ _ _, fun k (h : none = some k) => by cases h⟩, b0, b1, b2, b3⟩, hB6⟩
    (fun x => { tmps := #[.func (.func 40) #[] #[.pointer (some ⟨Bs, 0, none⟩)], .int .i64 (most : Int), undef, .pointer (some ⟨w.heap.size, 0, none⟩), .pointer (some ⟨w.heap.size + 1, 0, none⟩), .pointer (some ⟨w.heap.size + 2, 0, none⟩), .pointer (some ⟨w.heap.size + 3, 0, none⟩), .pointer (some ⟨w.heap.size + 4, 0, none⟩), .pointer (some ⟨w.heap.size + 5, 0, none⟩), .int .i64 x.1, .int .i64 x.2, .func (.func 40) #[] #[.pointer (some ⟨Bs, 0, none⟩)], .bool false, .func (.func 40) #[] #[.pointer (some ⟨Bs, 0, none⟩)], .int .i64 x.1, .int .i64 x.2, undef, undef, undef, undef, undef, undef, undef, undef, undef, undef, undef, undef, undef, undef, undef, undef], defers := [] }) ?assign ?body ?done ?stop
  case assign =>
    intro l x W K hK
    gi_wp2
    exact hK
  case body =>
    rintro lp pre x W ⟨⟨va, vb, h2, bm, r1, r2, r3⟩, hB⟩ hlt
    clear b0 b1 b2 b3 b4 b5 hB6 hA6
    obtain ⟨pa, ca, rfl⟩ := ownsRow_slice h2.2.2.1
    obtain ⟨pb, cb, rfl⟩ := ownsRow_slice h2.2.2.2.1
    have c1 := h2.1.cell
    have c2 := h2.2.1.cell
    have c3 := bm.cell
    have hlt2 : (pre.length : Int) < (most : Int) := by omega
    have hbs := hB.size
    have hW6 := h2.1.lt
    gi_wp2_with (first
      | (gi_at_builtin; refine wpListIn_append_own_at _ rfl (.tmp 22) _ 23 rfl (w.heap.size + 1) 3 i0 (.int .i64 0) 1 8 Tryd.underlying23 hi hz0 hz1 hz2 rfl (by decide) _ _ _ rfl (World.ownsRow.alloc h2.2.2.1 _) ⟨_, 0, none⟩ 1 1 [.int .i64 x.1] rfl rfl (cell_one_at (by simp)) (by intro u hu; simp at hu; subst hu; rfl) (by unfold maxLen; omega) (by omega) (by simp; omega) ?_; intro v1 w1 hown1 hgrow1 _ hat1; obtain ⟨g1, cap1, rfl⟩ := ownsRow_succ hown1; obtain ⟨bx1, t1, k1, hb1, hs1, ho1⟩ := h2.app (by decide) (by omega) (by omega) (by omega) hown1 hgrow1 hat1; have d1 := bx1.cell; have f1 := bx1.frozen; have d2 := t1.2.1.cell; clear hgrow1 hat1 hown1)
      | (gi_at_builtin; refine wpListIn_append_own_at _ rfl (.tmp 26) _ 23 rfl (w.heap.size + 1) 3 i0 (.int .i64 0) 1 8 Tryd.underlying23 hi hz0 hz1 hz2 rfl (by decide) _ _ _ rfl (World.ownsRow.alloc t1.2.2.2.1 _) ⟨_, 0, none⟩ 1 1 [.int .i64 x.2] rfl rfl (cell_one_at (by simp)) (by intro u hu; simp at hu; subst hu; rfl) (by unfold maxLen; omega) (by omega) (by simp; omega) ?_; intro v2 w2 hown2 hgrow2 _ hat2; obtain ⟨g2, cap2, rfl⟩ := ownsRow_succ hown2; obtain ⟨bx2, t2, k2, hb2, hs2, ho2⟩ := t1.symm.app (by decide) (by omega) (by simp; omega) (by omega) hown2 hgrow2 hat2; have e1 := bx2.cell; have f2 := bx2.frozen; clear hgrow2 hat2 hown2))
    have hb12 := hb1.trans hb2
    refine ⟨(k1.trans k2).from _, hb12.block g (by omega), ⟨.slice (some ⟨g1, 0, none⟩) (pre.length + 1) cap1, .slice (some ⟨g2, 0, none⟩) (pre.length + 1) cap2, ?_, boxed_of_heap bm (hb12.block _ (by omega)), ho2.out _ _ _ (ho1.out _ _ _ r1 (by decide) (by omega)) (by decide) (by omega), ho2.out _ _ _ (ho1.out _ _ _ r2 (by decide) (by omega)) (by decide) (by omega), ho2.out _ _ _ (ho1.out _ _ _ r3 (by decide) (by omega)) (by decide) (by omega)⟩, hB.trans (hb12.mono (by omega))⟩
    rw [List.length_append, List.map_append, List.map_append]
    exact t2.symm
  case done =>
    rintro D ys W hD rfl ⟨⟨va, vb, h2, bm, r1, r2, r3⟩, hB⟩ hK
    clear b0 b1 b2 b3 b4 b5 hB6 hA6
    obtain ⟨pa, ca, rfl⟩ := ownsRow_slice h2.2.2.1
    obtain ⟨pb, cb, rfl⟩ := ownsRow_slice h2.2.2.2.1
    have c1 := h2.1.cell
    have c2 := h2.2.1.cell
    have c4 := r1.cell
    have c5 := r2.cell
    have c6 := r3.cell
    have f4 := r1.frozen
    have f5 := r2.frozen
    have f6 := r3.frozen
    gi_wp2
    gi_region
    obtain ⟨va, hva⟩ : ∃ va, Value.slice pa (pairsTo l l.length).length ca = va := ⟨_, rfl⟩
    obtain ⟨vb, hvb⟩ : ∃ vb, Value.slice pb (pairsTo l l.length).length cb = vb := ⟨_, rfl⟩
    rw [hva, hvb] at h2 ⊢
    obtain ⟨W3, hW3⟩ : ∃ W3, (((W.setCell ⟨w.heap.size + 1, 0, none⟩ va).setCell ⟨w.heap.size + 2, 0, none⟩ vb).setCell ⟨w.heap.size + 3, 0, none⟩ (.bool true)).drew = W3 := ⟨_, rfl⟩
    have hK3 : W3.heap[D]? = some (.deferred (some [])) := by
      rw [← hW3]
      exact (KeepsOthers.setCell _ _ _).same D _ ((KeepsOthers.setCell _ _ _).same D _ ((KeepsOthers.setCell _ _ _).same D _ hK rfl) rfl) rfl
    have hother : ∀ k, k ≠ w.heap.size + 1 → k ≠ w.heap.size + 2 → k ≠ w.heap.size + 3 → W3.heap[k]? = W.heap[k]? := by
      intro k h1 h2 h3
      rw [← hW3]
      exact (Below.heap_setCell _ _ _ _ h3).trans ((Below.heap_setCell _ _ _ _ h2).trans (Below.heap_setCell _ _ _ _ h1))
    have R1 : Boxed W3 (w.heap.size + 1) 23 va := by
      rw [← hW3]
      exact boxed_of_heap (boxed_of_heap (r1.set va) (Below.heap_setCell _ _ _ _ (show w.heap.size + 1 ≠ w.heap.size + 2 by omega))) (Below.heap_setCell _ _ _ _ (show w.heap.size + 1 ≠ w.heap.size + 3 by omega))
    have R2 : Boxed W3 (w.heap.size + 2) 23 vb := by
      rw [← hW3]
      exact boxed_of_heap ((boxed_of_heap r2 (Below.heap_setCell _ _ _ _ (show w.heap.size + 2 ≠ w.heap.size + 1 by omega))).set vb) (Below.heap_setCell _ _ _ _ (show w.heap.size + 2 ≠ w.heap.size + 3 by omega))
    have R3 : Boxed W3 (w.heap.size + 3) 4 (.bool true) := by
      rw [← hW3]
      exact (boxed_of_heap (boxed_of_heap r3 (Below.heap_setCell _ _ _ _ (show w.heap.size + 3 ≠ w.heap.size + 1 by omega))) (Below.heap_setCell _ _ _ _ (show w.heap.size + 3 ≠ w.heap.size + 2 by omega))).set (.bool true)
    have hkeep : ∀ {v n xs}, W.ownsRow (w.heap.size + 1) 3 1 v n xs → W3.ownsRow (w.heap.size + 1) 3 1 v n xs := fun {v n xs} h =>
      ownsRow_of_heap h (fun k hk => hother k (fun e => r1.not_row (by decide) h (by rw [hk, e])) (fun e => r2.not_row (by decide) h (by rw [hk, e])) (fun e => r3.not_row (by decide) h (by rw [hk, e])))
    have ra := hkeep h2.2.2.1
    have rb := hkeep h2.2.2.2.1
    have hB3 : Below w.heap.size w W3 := by
      rw [← hW3]
      exact (((hB.setCell (p := ⟨w.heap.size + 1, 0, none⟩) (by simp) _).setCell (p := ⟨w.heap.size + 2, 0, none⟩) (by simp) _).setCell (p := ⟨w.heap.size + 3, 0, none⟩) (by simp) _).drew
    rw [hW3]
    clear hkeep hother hW3 c1 c2 c4 c5 c6 f4 f5 f6 r1 r2 r3 bm h2 hK hB heq
    gi_wp2
    have hg := grownBy_putObj' W3 D (.deferred none)
    have hr : ∀ r, some D = some r → ∃ o : Obj, W3.heap[r]? = some o ∧ o.isCells = false := fun r e => by cases e; exact ⟨_, hK3, rfl⟩
    have Q1 := (boxed_own' hg hr R1).cell
    have Q2 := (boxed_own' hg hr R2).cell
    have Q3 := (boxed_own' hg hr R3).cell
    have ra' := ownsRow_own' hg hr ra
    have rb' := ownsRow_own' hg hr rb
    refine ⟨by simp, .inl ⟨_, _, rfl, run_takeDeferred hK3, ?_⟩⟩
    refine ⟨.tuple #[va, vb, .bool true], ?_, va, vb, rfl, IsNums.of_row (by rw [List.map_map]; exact ra'), IsNums.of_row (by rw [List.map_map]; exact rb'), ?_⟩
    · subst hva
      subst hvb
      simp [results, Tryd.f14, go_sem, Q1, Q2, Q3]
    · exact hB3.trans (belowK_b (w := w) (Nat.le_refl _) W3 D _ _ (by omega) hK3 rfl rfl)
  case stop =>
    rintro D c pre W _ _ h _
    exact h.elim

end Go.Proofs.YtepadjcmmkglfabDoor
