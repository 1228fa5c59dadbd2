/- filter's New, Next, Len, Reset, Twin; the laws' R. Own work; no statement. -/
import Derived.Test.YtompaldhnbcikaaF2
set_option linter.unusedSimpArgs false
set_option linter.unusedVariables false
namespace Go.Proofs.Ytompaldhnbcikaa
open Go.RowKit Go.Shelf

theorem cells4F {W : World} {b : Nat} {x0 x1 x2 x3 : Value} {t : TypeId} (h : W.heap[b]? = some (.cells #[x0, x1, x2, x3] t (0, 0))) :
    W.cell? ⟨b, 0, none⟩ = some x0 ∧ W.cell? ⟨b, 1, none⟩ = some x1 ∧ W.cell? ⟨b, 2, none⟩ = some x2 ∧ W.cell? ⟨b, 3, none⟩ = some x3 ∧ W.frozen? ⟨b, 0, none⟩ = false ∧ W.frozen? ⟨b, 1, none⟩ = false ∧ W.frozen? ⟨b, 2, none⟩ = false ∧ W.frozen? ⟨b, 3, none⟩ = false :=
  ⟨by simpa using cellsAt h 0, by simpa using cellsAt h 1, by simpa using cellsAt h 2, by simpa using cellsAt h 3, frozenAt h _, frozenAt h _, frozenAt h _, frozenAt h _⟩

theorem newF_ok {s r : Int} (h : 0 ≤ s ∧ s < 8 ∧ 1 ≤ r ∧ r ≤ 64) : FilD.ok ⟨s, r, 1, []⟩ := ⟨h.1, by dsimp only; omega, h.2.2.1, h.2.2.2, by dsimp only; omega, by dsimp only; omega, fun _ h => (by cases h), List.Pairwise.nil⟩

set_option maxRecDepth 100000 in
set_option maxHeartbeats 1000000 in
theorem filNew_calls (s r : Int) (w : World) (h : 0 ≤ s ∧ s < 8 ∧ 1 ≤ r ∧ r ≤ 64) :
    Calls Try.prog 10 #[.int .i64 s, .int .i64 r] w fun e w' => e = .returned (.tuple #[.pointer (some ⟨w.heap.size + 1, 0, none⟩), .int .i64 0]) ∧ IsFil w' (w.heap.size + 1) w.heap.size ⟨s, r, 1, []⟩ ∧ Below w.heap.size w w' := by
  obtain ⟨h1, h2, h3, h4⟩ := h
  have hmk := fun w => run_makeMap (P := Try.prog) (w := w) 67
  go_enter Try.func10, Try.ntmps10
  go_wp2
  go_ret2
  refine ⟨rfl, ⟨newF_ok ⟨h1, h2, h3, h4⟩, ?_, [], rfl, ⟨#[], 0, ?_, rfl⟩, fun _ h => (by cases h)⟩, (box_below w _).alloc (by simp) _⟩
  · have := World.alloc_heap_new (w.alloc (.map #[] 0)) (.cells #[.int .i64 s, .int .i64 r, .int .i64 1, .map (some w.heap.size)] 69)
    rwa [World.size_alloc] at this
  · exact (Below.heap_alloc _ _ _ (by simp)).trans (World.alloc_heap_new w _)

set_option maxRecDepth 100000 in
set_option maxHeartbeats 1000000 in
theorem filNew_none (s r : Int) (w : World) (h : ¬ (0 ≤ s ∧ s < 8 ∧ 1 ≤ r ∧ r ≤ 64)) :
    Calls Try.prog 10 #[.int .i64 s, .int .i64 r] w fun e w' => e = .returned (.tuple #[.pointer none, .int .i64 1]) ∧ w' = w := by
  have hh := hide h
  clear h
  by_cases h1 : s < 0
  · go_enter Try.func10, Try.ntmps10
    go_wp2
    go_ret2
    exact ⟨rfl, rfl⟩
  by_cases h2 : 8 ≤ s
  · go_enter Try.func10, Try.ntmps10
    go_wp2
    go_ret2
    exact ⟨rfl, rfl⟩
  by_cases h3 : r < 1
  · go_enter Try.func10, Try.ntmps10
    go_wp2
    go_ret2
    exact ⟨rfl, rfl⟩
  by_cases h4 : 64 < r
  · go_enter Try.func10, Try.ntmps10
    go_wp2
    go_ret2
    exact ⟨rfl, rfl⟩
  exact absurd ⟨by omega, by omega, by omega, by omega⟩ hh.out

set_option maxHeartbeats 1000000 in
theorem filNext_calls (p b : Nat) (F : FilD) (w : World) (h : IsFil w p b F) :
    Calls Try.prog 24 #[.pointer (some ⟨p, 0, none⟩)] w fun e w' => e = .returned (.int .i64 F.next) ∧ w' = w := by
  obtain ⟨c0, c1, c2, c3, -, -, -, -⟩ := cells4F h.head
  clear h
  go_enter Try.func24, Try.ntmps24
  go_wp2
  go_ret
  exact ⟨rfl, rfl⟩

set_option maxHeartbeats 1000000 in
theorem filLen_calls (p b : Nat) (F : FilD) (w : World) (h : IsFil w p b F) :
    Calls Try.prog 25 #[.pointer (some ⟨p, 0, none⟩)] w fun e w' => e = .returned (.int .i64 (F.L.length : Int)) ∧ w' = w := by
  obtain ⟨c0, c1, c2, c3, -, -, -, -⟩ := cells4F h.head
  obtain ⟨M, h1, h2, -⟩ := h.held
  have q := fun ty => map_len (P := Try.prog) Try.underlying67 ty h2
  rw [List.length_map, show M.length = F.L.length by rw [← h1]; simp] at q
  clear h h1 h2
  go_enter Try.func25, Try.ntmps25
  go_wp2
  go_ret
  exact ⟨rfl, rfl⟩

theorem resetF_yes (F : FilD) {n : Int} (h : 1 ≤ n ∧ n ≤ 1048577) : resetE n = 0 ∧ resetF F n = ⟨F.site, F.room, n, []⟩ := ⟨if_pos h, if_pos h⟩
theorem resetF_no (F : FilD) {n : Int} (h : ¬ (1 ≤ n ∧ n ≤ 1048577)) : resetE n = 1 ∧ resetF F n = F := ⟨if_neg h, if_neg h⟩

set_option maxHeartbeats 1000000 in
theorem filReset_calls (p b : Nat) (F : FilD) (n c : Int) (G : FilD) (hc : resetE n = c) (hG : resetF F n = G) (w : World) (hf : IsFil w p b F) :
    Calls Try.prog 18 #[.pointer (some ⟨p, 0, none⟩), .int .i64 n] w fun e w' => e = .returned (.int .i64 c) ∧ IsFil w' p b G ∧ Touch (onFil p b) w w' := by
  obtain ⟨c0, c1, c2, c3, f0, f1, f2, f3⟩ := cells4F hf.head
  have hok := hide (resetF_ok hf.ok n)
  replace hf := hide hf
  by_cases h1 : n < 1
  · obtain ⟨e1, e2⟩ := resetF_no F (n := n) (by omega)
    rw [e1] at hc
    rw [e2] at hG
    subst hc
    subst hG
    clear e1 e2
    go_enter Try.func18, Try.ntmps18
    go_wp2
    go_ret
    exact ⟨rfl, hf.out, Touch.refl _ _⟩
  by_cases h2 : 1048577 < n
  · obtain ⟨e1, e2⟩ := resetF_no F (n := n) (by omega)
    rw [e1] at hc
    rw [e2] at hG
    subst hc
    subst hG
    clear e1 e2
    go_enter Try.func18, Try.ntmps18
    go_wp2
    go_ret
    exact ⟨rfl, hf.out, Touch.refl _ _⟩
  obtain ⟨e1, e2⟩ := resetF_yes F (n := n) (by omega)
  rw [e1] at hc
  rw [hG] at hok
  rw [e2] at hG
  have HG := hide hG
  subst hc
  clear e1 e2 hG
  obtain ⟨M, m1, m2, m3⟩ := hf.out.held
  obtain ⟨w1, hrun, hm1, ht1⟩ := map_clear (P := Try.prog) Try.underlying67 0 m2
  have hp1 := hide ((ht1.block p hf.out.lt hf.out.ne).trans hf.out.head)
  obtain ⟨-, -, d2, -, -, -, g2, -⟩ := cells4F hp1.out
  have hn1 := hide hf.out.ne
  have ht := hide ht1
  have hm := hide hm1
  clear m2 m1 m3 ht1 hm1
  go_enter Try.func18, Try.ntmps18
  go_wp2
  go_ret
  refine ⟨rfl, ⟨hok.out, ?_, [], by rw [← HG.out]; rfl, hm.out.keep (Below.heap_setCell _ _ _ _ hn1.out.symm), fun _ h => (by cases h)⟩, (ht.out.mono fun k _ e => .inr e).set _ _ (.inl rfl)⟩
  rw [← HG.out]
  exact setAt hp1.out _

end Go.Proofs.Ytompaldhnbcikaa
