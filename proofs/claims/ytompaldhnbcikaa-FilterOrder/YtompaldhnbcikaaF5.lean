/- filter's owned, Put. Own work; no statement. -/
import Derived.Test.YtompaldhnbcikaaF4
set_option linter.unusedSimpArgs false
set_option linter.unusedVariables false
namespace Go.Proofs.Ytompaldhnbcikaa
open Go.RowKit Go.Shelf Go.Sort

set_option maxHeartbeats 4000000 in
set_option maxRecDepth 100000 in
theorem filOwned_calls (v : Value) (r : RecD) (w : World) (hv : IsRec w v r) (hl : r.dep.length ≤ 17592186044416) (hk : r.key.size ≤ 1099511627776) (hvl : r.val.size ≤ 1099511627776) :
    Calls Try.prog 29 #[v] w fun e w' => ∃ v', e = .returned v' ∧ OwnRec w.heap.size w' v' r ∧ Below w.heap.size w w' := by
  obtain ⟨site, seq, dep, key, val⟩ := r
  obtain ⟨a, cap, rfl, hn⟩ := hv
  dsimp only at *
  obtain ⟨W0, hW0⟩ : ∃ W0, (w.alloc (.cells #[.int .i64 site, .int .i64 seq, .slice a dep.length cap, .string key, .string val] 35)).alloc (.cells #[.int .i64 0, .int .i64 0, .slice none 0 0, .string ⟨#[]⟩, .string ⟨#[]⟩] 35) = W0 := ⟨_, rfl⟩
  have hB : Below w.heap.size w W0 := by rw [← hW0]; exact (box_below w _).alloc (by simp) _
  have hsz : w.heap.size + 2 ≤ W0.heap.size := by rw [← hW0]; simp
  have h0 : W0.heap[w.heap.size]? = some (.cells #[.int .i64 site, .int .i64 seq, .slice a dep.length cap, .string key, .string val] 35 (0, 0)) := by
    rw [← hW0]; exact (Below.heap_alloc _ _ _ (by simp)).trans (World.alloc_heap_new w _)
  have h1 : W0.heap[w.heap.size + 1]? = some (.cells #[.int .i64 0, .int .i64 0, .slice none 0 0, .string ⟨#[]⟩, .string ⟨#[]⟩] 35 (0, 0)) := by
    have := World.alloc_heap_new (w.alloc (.cells #[.int .i64 site, .int .i64 seq, .slice a dep.length cap, .string key, .string val] 35)) (.cells #[.int .i64 0, .int .i64 0, .slice none 0 0, .string ⟨#[]⟩, .string ⟨#[]⟩] 35)
    rw [hW0, World.size_alloc] at this
    exact this
  have q4 := hide (fun w => clone_calls key w hk)
  have q5 := hide (fun w => clone_calls val w hvl)
  have CV := hide (cloneVec_calls (.slice a dep.length cap) dep W0 (hn.below hB) hl)
  have X := hide h0
  have Z := hide h1
  have HW := hide hW0
  have k2 := (cells5F h0).2.2.1
  clear hW0 hn h0 h1
  go_enter Try.func29, Try.ntmps29
  go_wp2_with fail
  rw [HW.out]
  clear HW
  (try simp only [k2])
  refine CV.out.mono ?_
  rintro e w1 ⟨v1, rfl, hown, hb1⟩
  obtain ⟨a', cap', rfl⟩ := ownsRow_slice hown
  replace hB := hB.trans (hb1.mono hB.size)
  replace X := hide (keepB X.out hb1)
  replace Z := hide (keepB Z.out hb1)
  obtain ⟨c0, c1, c2, c3, c4, f0, f1, f2, f3, f4⟩ := cells5F X.out
  have Hown := hide hown
  clear CV hown k2
  go_wp2_with fail
  have X1 := setAt (j := 2) X.out (.slice a' dep.length cap')
  have Z1 := (Below.heap_setCell w1 ⟨w.heap.size, 2, none⟩ (.slice a' dep.length cap') (w.heap.size + 1) (by simp)).trans Z.out
  have B1 := hB.setCell (p := ⟨w.heap.size, 2, none⟩) (Nat.le_refl _) (.slice a' dep.length cap')
  have hoth1 : ∀ k, k ≠ w.heap.size → (w1.setCell ⟨w.heap.size, 2, none⟩ (.slice a' dep.length cap')).heap[k]? = w1.heap[k]? := fun k hk => Below.heap_setCell _ _ _ _ hk
  have hown1 := hide (ownsRow_of_heap Hown.out fun k hk => hoth1 k (by have := (Hown.out.lt k hk).1; omega))
  have hs1 : w.heap.size + 2 ≤ w1.heap.size := ltAt Z.out
  obtain ⟨W1, hW1⟩ : ∃ W1, w1.setCell ⟨w.heap.size, 2, none⟩ (.slice a' dep.length cap') = W1 := ⟨_, rfl⟩
  rw [hW1] at X1 Z1 B1 hown1
  rw [hW1]
  clear X Z hB hW1 hoth1 Hown c0 c1 c2 c3 c4 f0 f1 f2 f3 f4 hb1
  have X2 : W1.heap[w.heap.size]? = some (.cells #[.int .i64 site, .int .i64 seq, .slice a' dep.length cap', .string key, .string val] 35 (0, 0)) := by simpa using X1
  have X : Hid (W1.drew.heap[w.heap.size]? = some (.cells #[.int .i64 site, .int .i64 seq, .slice a' dep.length cap', .string key, .string val] 35 (0, 0))) := hide X2
  have Z : Hid (W1.drew.heap[w.heap.size + 1]? = _) := hide (show W1.drew.heap[w.heap.size + 1]? = some (.cells #[.int .i64 0, .int .i64 0, .slice none 0 0, .string ⟨#[]⟩, .string ⟨#[]⟩] 35 (0, 0)) from Z1)
  have hB := B1.drew
  replace hown1 : Hid (W1.drew.ownsRow W0.heap.size 3 1 (.slice a' dep.length cap') dep.length (dep.map (Value.int .i64))) := hown1
  clear X1 X2 Z1 B1
  have c3 := (cells5F X.out).2.2.2.1
  have c4 := (cells5F X.out).2.2.2.2.1
  have f3 := frozenAt X.out 3
  have f4 := frozenAt X.out 4
  go_region_with (first | (go_at_call_of 39 (Value.string key); refine (q4.out _).mono ?_; rintro e w' ⟨rfl, hb⟩; replace X := hide (keepB X.out hb); replace Z := hide (keepB Z.out hb); replace hown1 := hide (own_below hown1.out hb); replace hB := hB.trans (hb.mono hB.size); have c3 := (cells5F X.out).2.2.2.1; have c4 := (cells5F X.out).2.2.2.2.1; have f3 := frozenAt X.out 3; have f4 := frozenAt X.out 4) | (go_at_call_of 39 (Value.string val); refine (q5.out _).mono ?_; rintro e w' ⟨rfl, hb⟩; replace X := hide (keepB X.out hb); replace Z := hide (keepB Z.out hb); replace hown1 := hide (own_below hown1.out hb); replace hB := hB.trans (hb.mono hB.size); have c3 := (cells5F X.out).2.2.2.1; have c4 := (cells5F X.out).2.2.2.2.1; have f3 := frozenAt X.out 3; have f4 := frozenAt X.out 4))
  all_goals
    have X1 : ((w'.setCell ⟨w.heap.size, 3, none⟩ (.string key)).setCell ⟨w.heap.size, 4, none⟩ (.string val)).heap[w.heap.size]? = some (.cells #[.int .i64 site, .int .i64 seq, .slice a' dep.length cap', .string key, .string val] 35 (0, 0)) := by
      simpa using set1 (j := 4) (set1 (j := 3) X.out (.string key)) (.string val)
    have Z1 := (Below.heap_setCell (w'.setCell ⟨w.heap.size, 3, none⟩ (.string key)) ⟨w.heap.size, 4, none⟩ (.string val) (w.heap.size + 1) (by simp)).trans ((Below.heap_setCell w' ⟨w.heap.size, 3, none⟩ (.string key) (w.heap.size + 1) (by simp)).trans Z.out)
    have B1 := (hB.setCell (p := ⟨w.heap.size, 3, none⟩) (Nat.le_refl _) (.string key)).setCell (p := ⟨w.heap.size, 4, none⟩) (Nat.le_refl _) (.string val)
    have O1 := ownsRow_of_heap (W' := (w'.setCell ⟨w.heap.size, 3, none⟩ (.string key)).setCell ⟨w.heap.size, 4, none⟩ (.string val)) hown1.out (fun k hk => (Below.heap_setCell _ _ _ _ (by have := (hown1.out.lt k hk).1; simp; omega)).trans (Below.heap_setCell _ _ _ _ (by have := (hown1.out.lt k hk).1; simp; omega)))
    obtain ⟨W2, hW2⟩ : ∃ W2, (w'.setCell ⟨w.heap.size, 3, none⟩ (.string key)).setCell ⟨w.heap.size, 4, none⟩ (.string val) = W2 := ⟨_, rfl⟩
    rw [hW2] at X1 Z1 B1 O1
    rw [hW2]
    clear hW2 hB X Z c3 c4 f3 f4 hown1
    obtain ⟨x0, x1, x2, x3, x4, -, -, -, -, -⟩ := cells5F X1
    obtain ⟨z0, z1, z2, z3, z4, g0, g1, g2, g3, g4⟩ := cells5F Z1
    have Hown := hide O1
    have HZ2 := hide Z1
    have B2 := hide B1
    clear X1 Z1 O1 B1
    go_wp2
    obtain ⟨W3, hW3⟩ : ∃ W3, put5 W2 (w.heap.size + 1) (.int .i64 site) (.int .i64 seq) (.slice a' dep.length cap') (.string key) (.string val) = W3 := ⟨_, rfl⟩
    have e2 := put5_heap HZ2.out (.int .i64 site) (.int .i64 seq) (.slice a' dep.length cap') (.string key) (.string val)
    have hB2 := put5_below B2.out (show w.heap.size ≤ w.heap.size + 1 by omega) (.int .i64 site) (.int .i64 seq) (.slice a' dep.length cap') (.string key) (.string val)
    have hoth : ∀ k, k ≠ w.heap.size + 1 → W3.heap[k]? = W2.heap[k]? := fun k hk => by rw [← hW3]; exact put5_other k hk _ _ _ _ _
    rw [hW3] at e2 hB2
    unfold put5 at hW3
    rw [hW3]
    clear hW3 z0 z1 z2 z3 z4 g0 g1 g2 g3 g4
    obtain ⟨k0, k1, k2, k3, k4, -, -, -, -, -⟩ := cells5F e2
    refine bodyPost_ret (v := .agg #[.int .i64 site, .int .i64 seq, .slice a' dep.length cap', .string key, .string val]) (by simp [results, Try.f29, go_sem, k0, k1, k2, k3, k4]) rfl ⟨_, rfl, ⟨_, rfl, ?_⟩, hB2⟩
    exact ownsRow_low (ownsRow_of_heap Hown.out fun k hk => hoth k (by have := (Hown.out.lt k hk).1; omega)) (by omega)

end Go.Proofs.Ytompaldhnbcikaa
