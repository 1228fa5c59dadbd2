/- filter's Twin, First. Own work; no statement. -/
import Derived.Test.YtompaldhnbcikaaF3
import Derived.Shelf.SlMaps.Clone
import Derived.Deep.RegionHeld3
set_option linter.unusedSimpArgs false
set_option linter.unusedVariables false
namespace Go.Proofs.Ytompaldhnbcikaa
open Go.RowKit Go.Shelf

theorem cells5F {W : World} {b : Nat} {x0 x1 x2 x3 x4 : Value} {t : TypeId} (h : W.heap[b]? = some (.cells #[x0, x1, x2, x3, x4] t (0, 0))) :
    W.cell? ⟨b, 0, none⟩ = some x0 ∧ W.cell? ⟨b, 1, none⟩ = some x1 ∧ W.cell? ⟨b, 2, none⟩ = some x2 ∧ W.cell? ⟨b, 3, none⟩ = some x3 ∧ W.cell? ⟨b, 4, none⟩ = some x4 ∧
    W.frozen? ⟨b, 0, none⟩ = false ∧ W.frozen? ⟨b, 1, none⟩ = false ∧ W.frozen? ⟨b, 2, none⟩ = false ∧ W.frozen? ⟨b, 3, none⟩ = false ∧ W.frozen? ⟨b, 4, none⟩ = false :=
  ⟨by simpa using cellsAt h 0, by simpa using cellsAt h 1, by simpa using cellsAt h 2, by simpa using cellsAt h 3, by simpa using cellsAt h 4, frozenAt h _, frozenAt h _, frozenAt h _, frozenAt h _, frozenAt h _⟩

set_option maxRecDepth 100000 in
set_option maxHeartbeats 2000000 in
theorem filTwin_calls (p b : Nat) (F : FilD) (w : World) (hf : IsFil w p b F) :
    Calls Try.prog 20 #[.pointer (some ⟨p, 0, none⟩)] w fun e w' => ∃ p' b', e = .returned (.pointer (some ⟨p', 0, none⟩)) ∧ IsFil w' p' b' F ∧ w.heap.size ≤ p' ∧ w.heap.size ≤ b' ∧ Below w.heap.size w w' := by
  obtain ⟨c0, c1, c2, c3, f0, f1, f2, f3⟩ := cells4F hf.head
  obtain ⟨M, m1, ⟨es, clock, m2, m4⟩, m3⟩ := hf.held
  have C : ∀ w : World, w.heap[b]? = some (.map es clock) → Calls Try.prog 32 #[.map (some b)] w fun e w' => e = .returned (.map (some w.heap.size)) ∧ w' = w.alloc (.map es clock) :=
    fun w hb => AnyW.maps_Clone Try.laysCloneMap b es clock w hb
  have d3 : ∀ o : Obj, (w.alloc o).cell? ⟨p, 3, none⟩ = some (.map (some b)) := fun o => Lib.cell?_alloc_some _ c3
  replace C := hide C
  replace hf := hide hf
  have m2' := hide m2
  replace m4 := hide m4
  replace m3 := hide m3
  replace m1 := hide m1
  clear m2
  go_enter Try.func20, Try.ntmps20
  go_wp2_with fail
  have hb1 := (box_below w (.cells #[.int .i64 F.site, .int .i64 F.room, .int .i64 F.next, .map (some b)] 69))
  refine (C.out _ ((hb1.block b (ltAt m2'.out)).trans m2'.out)).mono ?_
  rintro e w' ⟨rfl, rfl⟩
  rw [World.size_alloc]
  have hb2 := hb1.alloc (by simp) (.map es clock)
  have e1 := (Below.heap_alloc (w.alloc (.cells #[.int .i64 F.site, .int .i64 F.room, .int .i64 F.next, .map (some b)] 69)) (.map es clock) w.heap.size (by simp)).trans (World.alloc_heap_new w _)
  have e2 := World.alloc_heap_new (w.alloc (.cells #[.int .i64 F.site, .int .i64 F.room, .int .i64 F.next, .map (some b)] 69)) (.map es clock)
  rw [World.size_alloc] at e2
  obtain ⟨W2, hW2⟩ : ∃ W2, (w.alloc (.cells #[.int .i64 F.site, .int .i64 F.room, .int .i64 F.next, .map (some b)] 69)).alloc (.map es clock) = W2 := ⟨_, rfl⟩
  rw [hW2] at e1 e2 hb2
  rw [hW2]
  clear hW2 hb1 c0 c1 c2 c3 f0 f1 f2 f3 d3
  obtain ⟨-, -, -, c3, -, -, -, f3⟩ := cells4F e1
  replace e1 := hide e1
  replace e2 := hide e2
  go_wp2
  go_ret
  have hb3 := hb2.setCell (p := ⟨w.heap.size, 3, none⟩) (Nat.le_refl _) (.map (some (w.heap.size + 1)))
  refine ⟨_, w.heap.size + 1, rfl, ⟨hf.out.ok, setAt e1.out _, M, m1.out, ⟨es, clock, (Below.heap_setCell _ _ _ _ (by simp)).trans e2.out, m4.out⟩, fun x hx => (m3.out x hx).keep fun k c e => hb3.block k (ltAt e)⟩, Nat.le_refl _, by omega, hb3⟩

set_option maxRecDepth 100000 in
set_option maxHeartbeats 2000000 in
theorem filFirst_calls (p b : Nat) (F : FilD) (o : Option RecD) (ho : firstF F = o) (w : World) (hf : IsFil w p b F) :
    Calls Try.prog 21 #[.pointer (some ⟨p, 0, none⟩)] w fun e w' => ∃ v, e = .returned (.tuple #[v, .bool o.isSome]) ∧ OwnRec w.heap.size w' v (o.getD zeroR) ∧ Below w.heap.size w w' := by
  obtain ⟨c0, c1, c2, c3, f0, f1, f2, f3⟩ := cells4F hf.head
  obtain ⟨M, m1, m2, m3⟩ := hf.held
  obtain ⟨ob, hob⟩ : ∃ ob, w.heap[b]? = ob := ⟨_, rfl⟩
  have hL : ∃ v0, (∀ w', w'.heap[b]? = ob → (Instr.lookup 67 (.map (some b)) (.int .i64 F.next) true).run Try.prog w' = .ok (.tuple #[v0, .bool o.isSome]) w') ∧ OwnRec 0 w v0 (o.getD zeroR) := by
    subst hob
    rcases map_look2 (P := Try.prog) Try.underlying67 Try.underlying3 (z := .agg #[.int .i64 0, .int .i64 0, .slice none 0 0, .string ⟨#[]⟩, .string ⟨#[]⟩]) (fun w => Try.zeroValue35 w) F.next m2 with ⟨v, h1, h2⟩ | ⟨h1, h2⟩
    · obtain ⟨x, hx, he⟩ := List.mem_map.1 h1
      simp only [Prod.mk.injEq] at he
      have hxm : x.1 ∈ F.L := by rw [← m1]; exact List.mem_map.2 ⟨x, hx, rfl⟩
      have := firstF_mem hf.ok hxm he.1
      rw [ho] at this
      subst this
      exact ⟨v, h2, by rw [← he.2]; exact m3 x hx⟩
    · have : firstF F = none := by
        cases hq : firstF F with
        | none => rfl
        | some r =>
          obtain ⟨q1, q2⟩ := firstF_some hq
          rw [← m1] at q1
          obtain ⟨x, hx, rfl⟩ := List.mem_map.1 q1
          exact absurd q2 (h1 (x.1.seq, x.2) (List.mem_map.2 ⟨x, hx, rfl⟩))
      rw [ho] at this
      subst this
      exact ⟨_, h2, _, rfl, World.ownsRow_nil _ _ _ _⟩
  obtain ⟨v0, hl, vd, rfl, hr⟩ := hL
  have hdl : (o.getD zeroR).dep.length ≤ 8 := by
    cases ho' : o with
    | none => decide
    | some r =>
      rw [ho'] at ho
      exact (good_of (hf.ok.each r (firstF_some ho).1).1).2.2.2.2
  obtain ⟨a, cap, rfl⟩ := ownsRow_slice hr
  generalize o.getD zeroR = r at *
  replace hr := hide hr
  have hbl := hide hf.ltb
  have hp := hf.lt
  clear m1 m2 m3 hf ho
  obtain ⟨W0, hW0⟩ : ∃ W0, w.alloc (.cells #[.int .i64 0, .int .i64 0, .slice none 0 0, .string ⟨#[]⟩, .string ⟨#[]⟩] 35) = W0 := ⟨_, rfl⟩
  have e0 := World.alloc_heap_new w (.cells #[.int .i64 0, .int .i64 0, .slice none 0 0, .string ⟨#[]⟩, .string ⟨#[]⟩] 35)
  have hB0 := box_below w (.cells #[.int .i64 0, .int .i64 0, .slice none 0 0, .string ⟨#[]⟩, .string ⟨#[]⟩] 35)
  have hs0 : W0.heap.size = w.heap.size + 1 := by rw [← hW0]; simp
  rw [hW0] at e0 hB0
  have d2 : W0.cell? ⟨p, 2, none⟩ = _ := (World.cell?_of_block (a := ⟨p, 2, none⟩) (hB0.block p hp)).trans c2
  have d3 : W0.cell? ⟨p, 3, none⟩ = _ := (World.cell?_of_block (a := ⟨p, 3, none⟩) (hB0.block p hp)).trans c3
  have hbW : b < W0.heap.size := by have := hbl.out; omega
  have hob0 : W0.heap[b]? = ob := (hB0.block b hbl.out).trans hob
  have hW := hide hW0
  have hE0 := hide e0
  have HB0 := hide hB0
  clear hW0 c0 c1 c2 c3 f0 f1 f2 f3 e0 hB0 hob
  go_enter Try.func21, Try.ntmps21
  go_wp2_with fail
  rw [hW.out]
  clear hW
  go_region_held3 (fun x => x.cell? ⟨p, 2, none⟩ = some (.int .i64 F.next) ∧ x.cell? ⟨p, 3, none⟩ = some (.map (some b)) ∧ (Instr.lookup 67 (.map (some b)) (.int .i64 F.next) true).run Try.prog x = .ok (.tuple #[.agg #[.int .i64 r.site, .int .i64 r.seq, .slice a r.dep.length cap, .string r.key, .string r.val], .bool o.isSome]) x)
    (first
      | (refine ⟨by go_keep, by go_keep, hl _ hob0⟩)
      | (refine ⟨by go_keep, by go_keep, hl _ ((Below.heap_alloc _ _ _ (show b < W0.heap.size from hbW)).trans hob0)⟩))
    (fail)
  all_goals
    have e1 := World.alloc_heap_new W0 (.cells #[.int .i64 r.site, .int .i64 r.seq, .slice a r.dep.length cap, .string r.key, .string r.val] 35)
    have hB1 := (HB0.out.alloc (by omega) (.cells #[.int .i64 r.site, .int .i64 r.seq, .slice a r.dep.length cap, .string r.key, .string r.val] 35)).drew
    have e2 := (Below.heap_alloc W0 (.cells #[.int .i64 r.site, .int .i64 r.seq, .slice a r.dep.length cap, .string r.key, .string r.val] 35) w.heap.size (by omega)).trans hE0.out
    obtain ⟨W1, hW1⟩ : ∃ W1, (W0.alloc (.cells #[.int .i64 r.site, .int .i64 r.seq, .slice a r.dep.length cap, .string r.key, .string r.val] 35)).drew = W1 := ⟨_, rfl⟩
    rw [hs0] at e1
    replace e1 : W1.heap[w.heap.size + 1]? = some (.cells #[.int .i64 r.site, .int .i64 r.seq, .slice a r.dep.length cap, .string r.key, .string r.val] 35 (0, 0)) := by rw [← hW1]; exact e1
    replace e2 : W1.heap[w.heap.size]? = some (.cells #[.int .i64 0, .int .i64 0, .slice none 0 0, .string ⟨#[]⟩, .string ⟨#[]⟩] 35 (0, 0)) := by rw [← hW1]; exact e2
    rw [hW1] at hB1
    have C := hide (cloneVec_calls (.slice a r.dep.length cap) r.dep W1 (IsNums.of_row (ownsRow_of_heap hr.out fun k e => hB1.block k (hr.out.lt k e).2)) (by omega))
    rw [hW1]
    rename_i hHeld
    clear hHeld hW1 hE0 HB0 d2 d3 hob0 hl
    have HB1 := hide hB1
    have HE1 := hide e1
    have HE2 := hide e2
    have k2 := (cells5F e1).2.2.1
    clear hB1 e1 e2
    go_wp2_with fail
    refine C.out.mono ?_
    rintro e w2 ⟨v2, rfl, hown, hb2⟩
    clear k2
    have hB2 := HB1.out.trans (hb2.mono HB1.out.size)
    have e1 := keepB HE1.out hb2
    have e2 := keepB HE2.out hb2
    obtain ⟨a2, cap2, rfl⟩ := ownsRow_slice hown
    obtain ⟨z0, z1, z2, z3, z4, g0, g1, g2, g3, g4⟩ := cells5F e1
    obtain ⟨y0, y1, y2, y3, y4, h0, h1, h2, h3, h4⟩ := cells5F e2
    have Hown := hide hown
    have E1 := hide e1
    have E2 := hide e2
    have HB2 := hide hB2
    have hs2 := hide (show w.heap.size + 2 ≤ W1.heap.size from ltAt HE1.out)
    clear C HB1 HE1 HE2 hb2 hown e1 e2 hB2
    go_wp2
    obtain ⟨W3, hW3⟩ : ∃ W3, put5 (w2.setCell ⟨w.heap.size + 1, 2, none⟩ (.slice a2 r.dep.length cap2)) w.heap.size (.int .i64 r.site) (.int .i64 r.seq) (.slice a2 r.dep.length cap2) (.string r.key) (.string r.val) = W3 := ⟨_, rfl⟩
    have hoth : ∀ k, k ≠ w.heap.size → k ≠ w.heap.size + 1 → W3.heap[k]? = w2.heap[k]? := fun k hk hk' => by rw [← hW3]; exact (put5_other k hk _ _ _ _ _).trans (Below.heap_setCell _ _ _ _ hk')
    have e3 := put5_heap ((Below.heap_setCell w2 ⟨w.heap.size + 1, 2, none⟩ (.slice a2 r.dep.length cap2) w.heap.size (by simp)).trans E2.out) (.int .i64 r.site) (.int .i64 r.seq) (.slice a2 r.dep.length cap2) (.string r.key) (.string r.val)
    have hB3 := put5_below (HB2.out.setCell (p := ⟨w.heap.size + 1, 2, none⟩) (by simp) (.slice a2 r.dep.length cap2)) (Nat.le_refl _) (.int .i64 r.site) (.int .i64 r.seq) (.slice a2 r.dep.length cap2) (.string r.key) (.string r.val)
    rw [hW3] at e3 hB3
    unfold put5 at hW3
    rw [hW3]
    obtain ⟨k0, k1, k2, k3, k4, -, -, -, -, -⟩ := cells5F e3
    refine bodyPost_ret (v := .tuple #[.agg #[.int .i64 r.site, .int .i64 r.seq, .slice a2 r.dep.length cap2, .string r.key, .string r.val], .bool o.isSome]) (by simp [results, Try.f21, go_sem, k0, k1, k2, k3, k4]) rfl ⟨_, rfl, ⟨_, rfl, ?_⟩, hB3⟩
    have hs := hs2.out
    exact ownsRow_low (ownsRow_of_heap Hown.out fun k hk => hoth k (by have := (Hown.out.lt k hk).1; omega) (by have := (Hown.out.lt k hk).1; omega)) (by omega)

end Go.Proofs.Ytompaldhnbcikaa
