/- slices.Clone at vec.Vec; rec's copied. Own work; no statement. -/
import Derived.Test.YthpahkcncjieiaaDoorR5
import Derived.Laws.AppendOwn
set_option linter.unusedSimpArgs false
set_option linter.unusedVariables false
namespace Go.Proofs.YthpahkcncjieiaaDoor
open Go.RowKit Go.Sort

theorem row_of_nil (w : World) (B : Nat) (e : TypeId) : w.ownsRow B e 1 (.slice none 0 0) 0 [] := World.ownsRow_nil w B e 1

set_option maxHeartbeats 2000000 in
set_option maxRecDepth 100000 in
theorem cloneVec_calls (v : Value) (l : List Int) (w : World) (hv : IsNums .i64 w v l) (hl : l.length ≤ 17592186044416) :
    Calls Tryd.prog 36 #[v] w fun e w' => ∃ v', e = .returned v' ∧ w'.ownsRow w.heap.size 3 1 v' l.length (l.map (Value.int .i64)) ∧ Below w.heap.size w w' := by
  obtain ⟨i0, hi, hz0, hz1, hz2⟩ := info_parts Tryd.info3
  have q22 : ∀ (w : World) (a : Option Addr) (n c n' c' : Nat), (binOp .eql 28 (.slice a n c) (.slice none n' c')).run Tryd.prog w = .ok (.bool a.isNone) w := fun w a n c n' c' => Lib.run_eql_slice_nil w _ _ a n c n' c' Tryd.underlying28
  obtain ⟨a, cap, rfl, hcap, hcell⟩ := hv
  cases a with
  | none =>
    have hl0 : l = [] := by
      cases l with
      | nil => rfl
      | cons x xs => obtain ⟨b, o, e, -⟩ := hcell 0 (by simp); cases e
    subst hl0
    clear hcell hcap
    go_enter Tryd.func36, Tryd.ntmps36
    go_wp2
    go_ret
    exact ⟨_, rfl, World.ownsRow_nil _ _ _ _, Below.refl _ _⟩
  | some ad =>
    have hnews : ∀ j u, (l.map (Value.int .i64))[j]? = some u → (w.alloc (.cells #[] 3)).cell? (ad.add j) = some u := by
      intro j u hj
      have hjl : j < l.length := by have := (List.getElem?_eq_some_iff.1 hj).1; simpa using this
      obtain ⟨b, o, e, hc⟩ := hcell j hjl
      cases e
      rw [Addr.add_lit]
      refine Lib.cell?_alloc_some _ ?_
      rw [hc, ← hj]
      simp [hjl]
    have A := hide hnews
    clear hnews hcell
    go_enter Tryd.func36, Tryd.ntmps36
    go_wp2_with (at_builtin; refine wpList_append_own _ rfl _ _ 28 rfl w.heap.size 3 i0 (.int .i64 0) 1 8 Tryd.underlying28 hi hz0 hz1 hz2 rfl (by decide) _ _ _ rfl (World.ownsRow_made w #[] 0 (Nat.le_refl _) (Nat.zero_le _) rfl) ad l.length cap (l.map (Value.int .i64)) rfl ?qc1 A.out ?qc3 ?qc4 ?qc5 ?qc6 ?_)
    case qc1 => simp
    case qc3 => intro u hu; obtain ⟨x, _, rfl⟩ := List.mem_map.1 hu; rfl
    case qc4 => unfold maxLen; omega
    case qc5 => omega
    case qc6 => simp
    intro v' w1 hown hgrow hnil
    go_wp2
    go_ret
    refine ⟨v', rfl, by simpa using hown, ?_⟩
    exact ((Below.refl _ w).alloc (Nat.le_refl _) _).grown hgrow (by simp) (by intro k hk; simp [Value.ownBlock] at hk; omega)

theorem frozen_at {W : World} {b : Nat} {c : Array Value} {t : TypeId} (h : W.heap[b]? = some (.cells c t (0, 0))) (j : Nat) : W.frozen? ⟨b, j, none⟩ = false := by
  simp [World.frozen?, h]

/-- A record by value, with its numbers in memory of its own from block B on. -/
def OwnRec (B : Nat) (w : World) (v : Value) (r : RecD) : Prop :=
  ∃ vd, v = .agg #[.int .i64 r.site, .int .i64 r.seq, vd, .string r.key, .string r.val] ∧ w.ownsRow B 3 1 vd r.dep.length (r.dep.map (Value.int .i64))

theorem OwnRec.isRec {B : Nat} {w : World} {v : Value} {r : RecD} (h : OwnRec B w v r) : IsRec w v r := by
  obtain ⟨vd, rfl, ho⟩ := h
  obtain ⟨a, cap, rfl⟩ := ownsRow_slice ho
  exact ⟨a, cap, rfl, IsNums.of_row ho⟩

set_option maxHeartbeats 2000000 in
set_option maxRecDepth 100000 in
theorem copied_calls (v : Value) (r : RecD) (w : World) (hv : IsRec w v r) (hl : r.dep.length ≤ 17592186044416) :
    Calls Tryd.prog 16 #[v] w fun e w' => ∃ v', e = .returned v' ∧ OwnRec w.heap.size w' v' r ∧ Below w.heap.size w w' := by
  obtain ⟨site, seq, dep, key, val⟩ := r
  obtain ⟨a, cap, rfl, hn⟩ := hv
  dsimp only at *
  obtain ⟨W0, hW0⟩ : ∃ W0, (w.alloc (.cells #[.int .i64 site, .int .i64 seq, .slice a dep.length cap, .string key, .string val] 30)).alloc (.cells #[.int .i64 0, .int .i64 0, .slice none 0 0, .string ⟨#[]⟩, .string ⟨#[]⟩] 30) = W0 := ⟨_, rfl⟩
  have HB : Below w.heap.size w W0 := by rw [← hW0]; exact (box_below w _).alloc (by simp) _
  have hsz : W0.heap.size = w.heap.size + 2 := by rw [← hW0]; simp
  have h0 : W0.heap[w.heap.size]? = some (.cells #[.int .i64 site, .int .i64 seq, .slice a dep.length cap, .string key, .string val] 30 (0, 0)) := by
    rw [← hW0]; exact (Below.heap_alloc _ _ _ (by simp)).trans (World.alloc_heap_new w _)
  have h1 : W0.heap[w.heap.size + 1]? = some (.cells #[.int .i64 0, .int .i64 0, .slice none 0 0, .string ⟨#[]⟩, .string ⟨#[]⟩] 30 (0, 0)) := by
    have := World.alloc_heap_new (w.alloc (.cells #[.int .i64 site, .int .i64 seq, .slice a dep.length cap, .string key, .string val] 30)) (.cells #[.int .i64 0, .int .i64 0, .slice none 0 0, .string ⟨#[]⟩, .string ⟨#[]⟩] 30)
    rw [hW0, World.size_alloc] at this
    exact this
  have C := hide (cloneVec_calls _ dep W0 (hn.below HB) hl)
  have HW := hide hW0
  clear hW0 hn
  go_enter Tryd.func16, Tryd.ntmps16
  go_wp2_with fail
  rw [HW.out]
  refine C.out.mono ?_
  rintro e w1 ⟨v', rfl, hown, hB1⟩
  obtain ⟨a', cap', rfl⟩ := ownsRow_slice hown
  have e0 := (hB1.block w.heap.size (by omega)).trans h0
  have e1 := (hB1.block (w.heap.size + 1) (by omega)).trans h1
  have hB := HB.trans (hB1.mono HB.size)
  have hs1 := hB1.size
  have Hown := hide hown
  clear C HW h0 h1 HB hB1 hown
  have c0 := cell_at e0 0
  have c1 := cell_at e0 1
  have c2 := cell_at e0 2
  have c3 := cell_at e0 3
  have c4 := cell_at e0 4
  have d0 := cell_at e1 0
  have d1 := cell_at e1 1
  have d2 := cell_at e1 2
  have d3 := cell_at e1 3
  have d4 := cell_at e1 4
  simp only [List.getElem?_toArray, List.getElem?_cons_zero, List.getElem?_cons_succ] at c0 c1 c2 c3 c4 d0 d1 d2 d3 d4
  have f2 := frozen_at e0 2
  have g0 := frozen_at e1 0
  have g1 := frozen_at e1 1
  have g2 := frozen_at e1 2
  have g3 := frozen_at e1 3
  have g4 := frozen_at e1 4
  have E0 := hide e0
  have E1 := hide e1
  clear e0 e1
  go_wp2
  obtain ⟨W2, hW2⟩ : ∃ W2, put5 (w1.setCell ⟨w.heap.size, 2, none⟩ (.slice a' dep.length cap')) (w.heap.size + 1) (.int .i64 site) (.int .i64 seq) (.slice a' dep.length cap') (.string key) (.string val) = W2 := ⟨_, rfl⟩
  have e2 := put5_heap ((Below.heap_setCell w1 ⟨w.heap.size, 2, none⟩ (.slice a' dep.length cap') (w.heap.size + 1) (by simp)).trans E1.out) (.int .i64 site) (.int .i64 seq) (.slice a' dep.length cap') (.string key) (.string val)
  have hB2 := put5_below (hB.setCell (p := ⟨w.heap.size, 2, none⟩) (Nat.le_refl _) (.slice a' dep.length cap')) (show w.heap.size ≤ w.heap.size + 1 by omega) (.int .i64 site) (.int .i64 seq) (.slice a' dep.length cap') (.string key) (.string val)
  have hoth : ∀ k, W0.heap.size ≤ k → W2.heap[k]? = w1.heap[k]? := fun k hk => by rw [← hW2, put5_other k (by omega)]; exact Below.heap_setCell _ ⟨w.heap.size, 2, none⟩ _ k (by simp; omega)
  rw [hW2] at e2 hB2
  unfold put5 at hW2
  rw [hW2]
  clear hW2 c0 c1 c2 c3 c4 d0 d1 d2 d3 d4 f2 g0 g1 g2 g3 g4
  have k0 := cell_at e2 0
  have k1 := cell_at e2 1
  have k2 := cell_at e2 2
  have k3 := cell_at e2 3
  have k4 := cell_at e2 4
  simp only [List.getElem?_toArray, List.getElem?_cons_zero, List.getElem?_cons_succ] at k0 k1 k2 k3 k4
  refine bodyPost_ret (v := .agg #[.int .i64 site, .int .i64 seq, .slice a' dep.length cap', .string key, .string val]) (by simp [results, Tryd.f16, go_sem, k0, k1, k2, k3, k4]) rfl ⟨_, rfl, ⟨_, rfl, ?_⟩, hB2⟩
  exact ownsRow_low (ownsRow_of_heap Hown.out fun k hk => hoth k (Hown.out.lt k hk).1) (by omega)

end Go.Proofs.YthpahkcncjieiaaDoor
