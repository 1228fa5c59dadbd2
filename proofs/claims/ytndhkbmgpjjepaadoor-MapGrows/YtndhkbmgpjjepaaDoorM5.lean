/- stripe's parseSpan, parseSpans, Parse. Own work; no statement. -/
import Derived.Test.YtndhkbmgpjjepaaDoorM4
import Derived.Test.YtndhkbmgpjjepaaDoorW13
set_option linter.unusedSimpArgs false
set_option linter.unusedVariables false
namespace Go.Proofs.YtndhkbmgpjjepaaDoor
open Go.RowKit Go.Shelf

/-- A word as a span. -/
def spanL (l : List UInt8) : (Int × Int) × Bool :=
  if (numL (cutL l 47).1).2 = true ∧ (numL (cutL l 47).2.1).2 = true then (((numL (cutL l 47).1).1, (numL (cutL l 47).2.1).1), true) else ((0, 0), false)

/-- A struct of two cells, stored whole. -/
theorem put2 {W w : World} {b B : Nat} {x y : Value} {t : TypeId} {f : Nat × Nat} (h : W.heap[b]? = some (.cells #[x, y] t f)) (hB : Below B w W) (hb : B ≤ b) (u v : Value) :
    ((W.setCell ⟨b, 0, none⟩ u).setCell ⟨b, 1, none⟩ v).heap[b]? = some (.cells #[u, v] t f) ∧ ((W.setCell ⟨b, 0, none⟩ u).setCell ⟨b, 1, none⟩ v).cell? ⟨b, 0, none⟩ = some u ∧ ((W.setCell ⟨b, 0, none⟩ u).setCell ⟨b, 1, none⟩ v).cell? ⟨b, 1, none⟩ = some v ∧ Below B w ((W.setCell ⟨b, 0, none⟩ u).setCell ⟨b, 1, none⟩ v) := by
  have h2 := set1 (j := 1) (set1 (j := 0) h u) v
  simp only [List.setIfInBounds_toArray, List.set_cons_zero, List.set_cons_succ] at h2
  exact ⟨h2, by rw [cell_at h2]; rfl, by rw [cell_at h2]; rfl, (hB.setCell (p := ⟨b, 0, none⟩) hb u).setCell (p := ⟨b, 1, none⟩) hb v⟩

set_option maxHeartbeats 1000000 in
theorem parseSpan_calls (l : List UInt8) (w : World) (hs : l.length ≤ 1099511627776) :
    Calls Tryd.prog 38 #[.string ⟨l.toArray⟩] w fun e w' => e = .returned (.tuple #[.agg #[.int .i64 (spanL l).1.1, .int .i64 (spanL l).1.2], .bool (spanL l).2]) ∧ Below w.heap.size w w' := by
  have hlen := cutL_length l 47
  have C := hide fun w => cut_calls l 47 w hs
  obtain ⟨r, hr⟩ : ∃ r, spanL l = r := ⟨_, rfl⟩
  rw [hr]
  unfold spanL at hr
  generalize cutL l 47 = c at *
  obtain ⟨p, q, ok⟩ := c
  dsimp only at *
  have P1 := hide fun w => numParse_calls ⟨p.toArray⟩ w (by simp [ByteArray.size]; omega)
  have P2 := hide fun w => numParse_calls ⟨q.toArray⟩ w (by simp [ByteArray.size]; omega)
  rw [show (⟨p.toArray⟩ : ByteArray).data.toList = p from rfl] at P1
  rw [show (⟨q.toArray⟩ : ByteArray).data.toList = q from rfl] at P2
  generalize numL p = a at *
  generalize numL q = b at *
  obtain ⟨a, ia⟩ := a
  obtain ⟨b, ib⟩ := b
  dsimp only at *
  have K : Hid (∀ w1 n, w1 = (w.alloc (.cells #[.int .i64 0, .int .i64 0] 48)).drewN n → Below w.heap.size w w1 ∧ w1.heap[w.heap.size]? = some (.cells #[.int .i64 0, .int .i64 0] 48 (0, 0)) ∧ w1.cell? ⟨w.heap.size, 0, none⟩ = some (.int .i64 0) ∧ w1.cell? ⟨w.heap.size, 1, none⟩ = some (.int .i64 0) ∧ w1.frozen? ⟨w.heap.size, 0, none⟩ = false ∧ w1.frozen? ⟨w.heap.size, 1, none⟩ = false ∧ w1.heap.size = w.heap.size + 1) := by
    rintro w1 n rfl
    have h : ((w.alloc (.cells #[.int .i64 0, .int .i64 0] 48)).drewN n).heap[w.heap.size]? = some (.cells #[.int .i64 0, .int .i64 0] 48 (0, 0)) := World.alloc_heap_new w _
    exact ⟨((Below.refl _ w).alloc (Nat.le_refl _) _).trans (below_draws n), h, cellsAt h 0, cellsAt h 1, frozenAt h 0, frozenAt h 1, by simp [World.drewN]⟩
  cases ia with
  | false =>
    rw [if_neg (by simp)] at hr
    subst hr
    go_enter Tryd.func38, Tryd.ntmps38
    go_wp2_with (first | (go_at_call 43; refine (C.out _).mono ?_; rintro e w1 ⟨rfl, n, hw1⟩; obtain ⟨hB1, hb1, d0, d1, f0, f1, hs1⟩ := K.out w1 n hw1; replace hb1 := hide hb1; clear C hw1 K) | (go_at_call 44; refine (P1.out _).mono ?_; rintro e w2 ⟨rfl, rfl⟩; clear P1) | (go_at_call 44; refine (P2.out _).mono ?_; rintro e w2 ⟨rfl, rfl⟩; clear P2))
    obtain ⟨-, k0, k1, hB2⟩ := put2 hb1.out hB1 (Nat.le_refl _) (.int .i64 0) (.int .i64 0)
    exact bodyPost_ret (v := .tuple #[.agg #[.int .i64 0, .int .i64 0], .bool false]) (by simp [results, Tryd.f38, go_sem, k0, k1]) rfl ⟨rfl, hB2⟩
  | true =>
    cases ib with
    | false =>
      rw [if_neg (by simp)] at hr
      subst hr
      go_enter Tryd.func38, Tryd.ntmps38
      go_wp2_with (first | (go_at_call 43; refine (C.out _).mono ?_; rintro e w1 ⟨rfl, n, hw1⟩; obtain ⟨hB1, hb1, d0, d1, f0, f1, hs1⟩ := K.out w1 n hw1; replace hb1 := hide hb1; clear C hw1 K) | (go_at_call 44; refine (P1.out _).mono ?_; rintro e w2 ⟨rfl, rfl⟩; clear P1) | (go_at_call 44; refine (P2.out _).mono ?_; rintro e w2 ⟨rfl, rfl⟩; clear P2))
      obtain ⟨-, k0, k1, hB2⟩ := put2 hb1.out hB1 (Nat.le_refl _) (.int .i64 0) (.int .i64 0)
      exact bodyPost_ret (v := .tuple #[.agg #[.int .i64 0, .int .i64 0], .bool false]) (by simp [results, Tryd.f38, go_sem, k0, k1]) rfl ⟨rfl, hB2⟩
    | true =>
      rw [if_pos (by simp)] at hr
      subst hr
      go_enter Tryd.func38, Tryd.ntmps38
      go_wp2_with (first | (go_at_call 43; refine (C.out _).mono ?_; rintro e w1 ⟨rfl, n, hw1⟩; obtain ⟨hB1, hb1, d0, d1, f0, f1, hs1⟩ := K.out w1 n hw1; replace hb1 := hide hb1; clear C hw1 K) | (go_at_call 44; refine (P1.out _).mono ?_; rintro e w2 ⟨rfl, rfl⟩; clear P1) | (go_at_call 44; refine (P2.out _).mono ?_; rintro e w2 ⟨rfl, rfl⟩; clear P2))
      obtain ⟨-, k0, k1, hB2⟩ := put2 hb1.out hB1 (Nat.le_refl _) (.int .i64 a) (.int .i64 b)
      exact bodyPost_ret (v := .tuple #[.agg #[.int .i64 a, .int .i64 b], .bool true]) (by simp [results, Tryd.f38, go_sem, k0, k1]) rfl ⟨rfl, hB2⟩

end Go.Proofs.YtndhkbmgpjjepaaDoor
