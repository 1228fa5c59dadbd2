/- Own work: the parts M6, M7, M8, M9, M10, M11 of the proof, laid together. -/
import Derived.Test.YtndhkbmgpjjepaaDoorPartMapWords3
/- stripe's parseSpans, Parse. Own work; no statement. -/
set_option linter.unusedSimpArgs false
set_option linter.unusedVariables false
namespace Go.Proofs.YtndhkbmgpjjepaaDoor
open Go.RowKit Go.Shelf

attribute [local go_sem] Oper.semAt_some

theorem keeps_of_below {W W' : World} (h : Below W.heap.size W W') : KeepsOthers W W' := ⟨h.size, fun _ _ hk _ => (h.block _ (ltAt hk)).trans hk⟩
theorem app_lowS {W w1 : World} {N n₁ B : Nat} {t e : TypeId} {s : Nat} {v v' : Value} {k m : Nat} {xs ys : List Value} {tmp : Obj} (hv : Boxed W B t v) (hrow : W.ownsRow n₁ e s v k xs) (hn : n₁ ≤ W.heap.size) (hB : B < n₁) (hN : N ≤ B)
    (hown : w1.ownsRow n₁ e s v' m ys) (hgrow : (W.alloc tmp).grownBy w1 v.ownBlock) :
    Boxed w1 B t v ∧ Boxed (w1.setCell ⟨B, 0, none⟩ v') B t v' ∧ (w1.setCell ⟨B, 0, none⟩ v').ownsRow n₁ e s v' m ys ∧ KeepsOthers W (w1.setCell ⟨B, 0, none⟩ v') ∧ Below N W (w1.setCell ⟨B, 0, none⟩ v') ∧
      Hid (∀ b, b < n₁ → b ≠ B → (w1.setCell ⟨B, 0, none⟩ v').heap[b]? = W.heap[b]?) := by
  have hne : ∀ b, b < n₁ → some b ≠ v.ownBlock := fun b hb e' => by have := (hrow.lt b e'.symm).1; omega
  have hv1 : Boxed w1 B t v := (hv.alloc tmp).kept hgrow (hne B hB)
  have hoth : ∀ b, b < n₁ → b ≠ B → (w1.setCell ⟨B, 0, none⟩ v').heap[b]? = W.heap[b]? := fun b hb hbB => app_other hgrow b (by omega) (hne b hb) hbB
  refine ⟨hv1, hv1.set v', ownsRow_of_heap hown (fun k hk => Below.heap_setCell _ _ _ _ (fun e' => by have := (hown.lt k hk).1; have e2 : k = B := e'; omega)), ?_, ?_, hoth⟩
  · refine ((KeepsOthers.alloc W tmp).trans (KeepsOthers.of_grownBy hgrow fun j o ej hj => ?_)).trans (KeepsOthers.setCell _ _ _)
    rcases (hrow.alloc tmp).2 with ⟨rfl, _⟩ | ⟨g, cap, cur, rfl, _, hgb, _⟩
    · simp [Value.ownBlock] at ej
    · obtain rfl : g = j := by simpa [Value.ownBlock] using ej
      rw [hgb] at hj; cases hj; rfl
  · exact (((Below.refl N W).alloc (by omega) tmp).grown hgrow (by simp; omega) (fun j ej => by have := (hrow.lt j ej).1; omega)).setCell (p := ⟨B, 0, none⟩) hN v'

theorem two_new {W : World} {x y : Value} {e : TypeId} {g : Nat} (h : g = W.heap.size) : ∀ j u, [x, y][j]? = some u → (W.alloc (.cells #[x, y] e)).cell? ((⟨g, 0, none⟩ : Addr).add j) = some u := by
  subst h
  intro j u hj
  rw [Addr.add_lit, Nat.zero_add, cellsAt (World.alloc_heap_new W _)]
  simpa using hj
theorem two_one {x y : Int} : ∀ u ∈ ([.int .i64 x, .int .i64 y] : List Value), u.oneCell' = true := by
  intro u hu
  simp only [List.mem_cons, List.not_mem_nil, or_false] at hu
  rcases hu with rfl | rfl <;> rfl

/-- Words as spans. -/
def spansOf (ws : List (List UInt8)) : MapD := ws.map fun x => (spanL x).1
def spansB (ws : List (List UInt8)) : Bool := ws.all fun x => (spanL x).2
/-- Words as a map, if each is a span. -/
def parseW (ws : List (List UInt8)) : MapD × Bool := if spansB ws then (spansOf ws, true) else ([], false)

theorem splitL_length : ∀ l : List UInt8, (splitL l).length ≤ l.length + 1
  | [] => by simp [splitL]
  | x :: r => by
    have := splitL_length r
    unfold splitL
    split
    · simp; omega
    · cases h : splitL r with
      | nil => simp
      | cons y ys =>
        rw [h] at this
        simp at this ⊢
        omega

set_option maxRecDepth 100000 in
set_option maxHeartbeats 4000000 in
theorem parseSpansO_calls (s : List UInt8) (w : World) (hs : s.length ≤ 1073741824) (hne : ¬ s = []) :
    Calls Tryd.prog 27 #[.string ⟨s.toArray⟩] w fun e w' => ∃ v, e = .returned (.tuple #[v, .bool (parseW (splitL s)).2]) ∧ OwnsM w' w.heap.size v (parseW (splitL s)).1 ∧ Below w.heap.size w w' := by
  obtain ⟨i0, hi, hz0, hz1, hz2⟩ := info_parts Tryd.info48
  have hem : s.isEmpty = false := by cases s with
    | nil => exact absurd rfl hne
    | cons x r => rfl
  refine (callsIn_wide (n := 5)).1 ?_
  refine callsIn_of_wp_marks Tryd.func27 rfl trivial ?_ rfl
  simp only [Tryd.ntmps27, List.size_toArray, List.length_cons, List.length_nil, Nat.reduceAdd, Nat.reduceSub, Array.replicate_succ, Array.replicate_zero, List.push_toArray, List.append_toArray, List.nil_append, List.cons_append]
  gi_wp2_with (refine ⟨trivial, ?_⟩; gi_at_call 37; refine ((callsIn_wide (n := _)).2 (splitSeq_calls _ _)).mono ?_; rintro e w' ⟨rfl, rfl⟩)
  simp only [Nat.add_assoc, Nat.reduceAdd]
  obtain ⟨W8, hW8⟩ : ∃ W8, (((((w.alloc (.cells #[.slice none 0 0] 23)).alloc (.cells #[.bool false] 4)).alloc (.cells #[.slice none 0 0] 23)).alloc (.cells #[.string ⟨s.toArray⟩] 9)).alloc (.cells #[.string ⟨#[32]⟩] 9)).alloc (.cells #[.int .i64 0] 3) = W8 := ⟨_, rfl⟩
  have s8 : W8.heap.size = w.heap.size + 6 := by rw [← hW8]; simp
  have b0 : Boxed W8 w.heap.size 23 (.slice none 0 0) := by rw [← hW8]; exact ((((((boxed_new' (by simp)).alloc _).alloc _).alloc _).alloc _).alloc _)
  have b1 : Boxed W8 (w.heap.size + 1) 4 (.bool false) := by rw [← hW8]; exact (((((boxed_new' (by simp)).alloc _).alloc _).alloc _).alloc _)
  have b2 : Boxed W8 (w.heap.size + 2) 23 (.slice none 0 0) := by rw [← hW8]; exact ((((boxed_new' (by simp)).alloc _).alloc _).alloc _)
  have b5 : IsSplit W8 (w.heap.size + 3) s := by rw [← hW8]; exact ⟨(((boxed_new' (by simp)).alloc _).alloc _), ((boxed_new' (by simp)).alloc _), (boxed_new' (by simp))⟩
  have hB8 : Below w.heap.size w W8 := by
    rw [← hW8]
    exact ((((((Below.refl _ w).alloc (Nat.le_refl _) _).alloc (by simp) _).alloc (by simp; omega) _).alloc (by simp; omega) _).alloc (by simp; omega) _).alloc (by simp; omega) _
  rw [hW8]
  clear hW8
  refine range_law (by decide) (gf := 49) (lb := #[.pointer (some ⟨w.heap.size + 4, 0, none⟩), .pointer (some ⟨w.heap.size + 3, 0, none⟩), .pointer (some ⟨w.heap.size + 5, 0, none⟩)]) rfl (enters_of Tryd.func49 (by kernel_rfl) rfl)
    (split_stops 4 (by decide) (w.heap.size + 3) s (by omega) W8 b5) keepsThree_t (keepsThree_b (by omega)) ?hE (fun _ => rfl)
    (fun pre W => ((∃ v, Boxed W (w.heap.size + 2) 23 v ∧ W.ownsRow (w.heap.size + 6) 48 2 v (spansOf (pre.map (·.1))).length (cellsM (spansOf (pre.map (·.1))))) ∧
      Boxed W w.heap.size 23 (.slice none 0 0) ∧ Boxed W (w.heap.size + 1) 4 (.bool false) ∧ (spansB (pre.map (·.1)) = true) ∧ w.heap.size + 6 ≤ W.heap.size) ∧ Below w.heap.size w W)
    (fun c pre W => (c = .ret ∧ Boxed W w.heap.size 23 (.slice none 0 0) ∧ Boxed W (w.heap.size + 1) 4 (.bool false) ∧ (spansB (pre.map (·.1)) = false)) ∧ Below w.heap.size w W)
    ?hI ?hIx ?hIE ?hIxE ?h0
    (fun x => { tmps := #[.string ⟨s.toArray⟩, undef, .pointer (some ⟨w.heap.size, 0, none⟩), .pointer (some ⟨w.heap.size + 1, 0, none⟩), .pointer (some ⟨w.heap.size + 2, 0, none⟩), .string ⟨x.1.toArray⟩, undef, undef, .string ⟨s.toArray⟩, .bool false, .string ⟨s.toArray⟩, .func (.func 49) #[] #[.pointer (some ⟨w.heap.size + 4, 0, none⟩), .pointer (some ⟨w.heap.size + 3, 0, none⟩), .pointer (some ⟨w.heap.size + 5, 0, none⟩)], .string ⟨x.1.toArray⟩, undef, undef, undef, undef, undef, undef, undef, undef, undef, undef, undef, undef], defers := [] }) ?assign ?body ?done ?stop
  case hE =>
    rintro A B ⟨v, rfl⟩
    exact (KeepsOthers.setCell _ _ _).from _
  case hI =>
    refine OwnFrom.and (Own.from (fun pre X Y row hh hg hr => ?_) _) (ownFrom_below (Nat.le_refl _) (by omega))
    obtain ⟨⟨v, h1, h2⟩, h3, h4, h5, hsz⟩ := hh
    exact ⟨⟨v, boxed_own' hg hr h1, ownsRow_own' hg hr h2⟩, boxed_own' hg hr h3, boxed_own' hg hr h4, h5, Nat.le_trans hsz hg.size⟩
  case hIx =>
    intro c
    refine OwnFrom.and (Own.from (fun pre X Y row hh hg hr => ?_) _) (ownFrom_below (Nat.le_refl _) (by omega))
    exact ⟨hh.1, boxed_own' hg hr hh.2.1, boxed_own' hg hr hh.2.2.1, hh.2.2.2⟩
  case hIE =>
    rintro pre A B ⟨⟨⟨v, h1, h2⟩, h3, h4, h5, hsz⟩, hB⟩ ⟨u, rfl⟩
    have hk : ∀ k, k ≠ w.heap.size + 3 → (A.setCell ⟨w.heap.size + 3, 0, none⟩ u).heap[k]? = A.heap[k]? := fun k h => Below.heap_setCell _ _ _ _ h
    exact ⟨⟨⟨v, boxed_of_heap h1 (hk _ (by omega)), ownsRow_of_heap h2 (fun k hk' => hk k (by have := (h2.lt k hk').1; omega))⟩, boxed_of_heap h3 (hk _ (by omega)), boxed_of_heap h4 (hk _ (by omega)), h5, by simpa using hsz⟩, hB.setCell (p := ⟨w.heap.size + 3, 0, none⟩) (by simp) _⟩
  case hIxE =>
    rintro c pre A B ⟨⟨hc, h1, h2, h3⟩, hB⟩ ⟨u, rfl⟩
    have hk : ∀ k, k ≠ w.heap.size + 3 → (A.setCell ⟨w.heap.size + 3, 0, none⟩ u).heap[k]? = A.heap[k]? := fun k h => Below.heap_setCell _ _ _ _ h
    exact ⟨⟨hc, boxed_of_heap h1 (hk _ (by omega)), boxed_of_heap h2 (hk _ (by omega)), h3⟩, hB.setCell (p := ⟨w.heap.size + 3, 0, none⟩) (by simp) _⟩
  case h0 => exact ⟨⟨⟨_, b2, World.ownsRow_nil _ _ _ _⟩, b0, b1, rfl, by omega⟩, hB8⟩
  case assign =>
    intro l x W K hK
    gi_wp2
    exact hK
  case body =>
    rintro lp pre ⟨x, hx⟩ W ⟨⟨⟨v, h1, h2⟩, h5, h6, h7, hsz⟩, hB⟩ hlt
    clear b0 b1 b2 b5 hB8
    have hplen : (spansOf (pre.map (·.1))).length ≤ 1073741825 := by
      have := splitL_length s
      simp only [spansOf, List.length_map]
      omega
    have hsnoc : spansOf ((pre ++ [(⟨x, hx⟩ : Word)]).map (·.1)) = spansOf (pre.map (·.1)) ++ [(spanL x).1] := by simp [spansOf]
    have hall : spansB ((pre ++ [(⟨x, hx⟩ : Word)]).map (·.1)) = (spanL x).2 := by
      rw [spansB, List.map_append, List.all_append]
      rw [spansB] at h7
      rw [h7]
      simp
    have C := hide fun w => parseSpan_calls x w hx
    generalize spanL x = sp at *
    obtain ⟨⟨p, q⟩, ok⟩ := sp
    dsimp only at *
    obtain ⟨L, hL⟩ : ∃ L, spansOf (pre.map (·.1)) = L := ⟨_, rfl⟩
    rw [hL] at h2 hsnoc hplen
    have Hsnoc := hide hsnoc
    have Hall := hide hall
    clear hL hall hsnoc h7 hlt
    have K : Hid (∀ w1, Below W.heap.size W w1 → w.heap.size + 6 ≤ w1.heap.size ∧ ∀ X, X = w1.alloc (.cells #[.int .i64 p, .int .i64 q] 48) → Boxed X w.heap.size 23 (.slice none 0 0) ∧ Boxed X (w.heap.size + 1) 4 (.bool false) ∧ Boxed X (w.heap.size + 2) 23 v ∧
        X.cell? ⟨w.heap.size, 0, none⟩ = some (.slice none 0 0) ∧ X.frozen? ⟨w.heap.size, 0, none⟩ = false ∧ X.cell? ⟨w.heap.size + 1, 0, none⟩ = some (.bool false) ∧ X.frozen? ⟨w.heap.size + 1, 0, none⟩ = false ∧ X.cell? ⟨w.heap.size + 2, 0, none⟩ = some v ∧ X.frozen? ⟨w.heap.size + 2, 0, none⟩ = false) := by
      intro w1 hB1
      refine ⟨Nat.le_trans hsz hB1.size, ?_⟩
      rintro X rfl
      have x5 := (boxed_of_heap h5 (hB1.block _ h5.lt)).alloc (.cells #[.int .i64 p, .int .i64 q] 48)
      have x6 := (boxed_of_heap h6 (hB1.block _ h6.lt)).alloc (.cells #[.int .i64 p, .int .i64 q] 48)
      have x1 := (boxed_of_heap h1 (hB1.block _ h1.lt)).alloc (.cells #[.int .i64 p, .int .i64 q] 48)
      exact ⟨x5, x6, x1, x5.cell, x5.frozen, x6.cell, x6.frozen, x1.cell, x1.frozen⟩
    have hbs := hB.size
    cases ok with
    | false =>
      gi_wp2_with (refine ⟨trivial, ?_⟩; gi_at_call 38; refine (CallsIn.inRound lp ((callsIn_wide (n := _)).2 (C.out _))).mono ?_; rintro e w1 ⟨rfl, hB1⟩; obtain ⟨hs1, K1⟩ := K.out w1 hB1; obtain ⟨x5, x6, x1, c0, f0, c1, f1, c2, f2⟩ := K1 _ rfl; clear C K1)
      exact ⟨(((keeps_of_below hB1).trans (KeepsOthers.alloc _ _)).trans ((KeepsOthers.setCell _ _ _).trans (KeepsOthers.setCell _ _ _))).from _, ⟨rfl, boxed_of_heap (x5.set _) (one_set _ (by omega)), (boxed_of_heap x6 (one_set _ (by omega))).set _, Hall.out⟩, (((hB.trans (hB1.mono hbs)).alloc (by omega) _).setCell (p := ⟨w.heap.size, 0, none⟩) (by simp) _).setCell (p := ⟨w.heap.size + 1, 0, none⟩) (by simp) _⟩
    | true =>
      obtain ⟨pa, ca, rfl⟩ := ownsRow_slice h2
      gi_wp2_with (first | (refine ⟨trivial, ?_⟩; gi_at_call 38; refine (CallsIn.inRound lp ((callsIn_wide (n := _)).2 (C.out _))).mono ?_; rintro e w1 ⟨rfl, hB1⟩; obtain ⟨hs1, K1⟩ := K.out w1 hB1; obtain ⟨x5, x6, x1, c0, f0, c1, f1, c2, f2⟩ := K1 _ rfl; clear C K1) | (gi_at_builtin; have z2 := World.ownsRow.alloc (ownsRow_of_heap h2 (fun k e => hB1.block k (h2.lt k e).2)) (.cells #[.int .i64 p, .int .i64 q] 48); refine wpListIn_append_own_at _ rfl (.tmp 20) _ 23 rfl (w.heap.size + 6) 48 i0 _ 2 16 Tryd.underlying23 hi hz0 hz1 hz2 rfl (by decide) _ _ _ rfl (World.ownsRow.alloc z2 _) ⟨_, 0, none⟩ 1 1 [.int .i64 p, .int .i64 q] rfl rfl (two_new (by simp)) two_one (by unfold maxLen; omega) (by omega) (by simp; omega) ?_; intro v1 w2 hown1 hgrow1 _ _; obtain ⟨g1, cap1, rfl⟩ := ownsRow_succ hown1; obtain ⟨bx1, t1, r1, k1, hb1, ho1⟩ := app_lowS (N := w.heap.size) x1 z2 (by simp; omega) (by omega) (by omega) hown1 hgrow1; have d1 := bx1.cell; have g1f := bx1.frozen; clear hgrow1 hown1))
      have q : ∀ b, b < w.heap.size + 6 → b ≠ w.heap.size + 2 → _ = W.heap[b]? := fun b hb h2 => (ho1.out b hb h2).trans ((Below.heap_alloc _ _ _ (by omega)).trans (hB1.block b (by omega)))
      refine ⟨(((keeps_of_below hB1).trans (KeepsOthers.alloc _ _)).trans k1).from _, ⟨q _ (by omega) (by omega), q _ (by omega) (by omega), q _ (by omega) (by omega)⟩, ⟨⟨_, t1, ?_⟩, boxed_of_heap h5 (q _ (by omega) (by omega)), boxed_of_heap h6 (q _ (by omega) (by omega)), Hall.out, ?_⟩, ((hB.trans (hB1.mono hbs)).alloc (by omega) _).trans hb1⟩
      · rw [Hsnoc.out, List.length_append, cellsM_append]
        exact r1
      · have := hb1.size
        simp at this ⊢
        omega
  case done =>
    rintro D ys W hD hys ⟨⟨⟨v, h1, h2⟩, h5, h6, h7, hsz⟩, hB⟩ hK
    clear b0 b1 b2 b5 hB8
    obtain ⟨pa, ca, rfl⟩ := ownsRow_slice h2
    rw [hys] at h1 h2 h7
    have hp : parseW (splitL s) = (spansOf (splitL s), true) := by unfold parseW; rw [if_pos h7]
    have c2 := h1.cell
    have c0 := h5.cell
    have c1 := h6.cell
    have f0 := h5.frozen
    have f1 := h6.frozen
    generalize spansOf (splitL s) = l at *
    have Hp := hide hp
    clear hp h7 hys
    gi_wp2
    obtain ⟨W3, hW3⟩ : ∃ W3, (W.setCell ⟨w.heap.size, 0, none⟩ (.slice pa l.length ca)).setCell ⟨w.heap.size + 1, 0, none⟩ (.bool true) = W3 := ⟨_, rfl⟩
    have hK3 : W3.heap[D]? = some (.deferred (some [])) := by
      rw [← hW3]
      exact (KeepsOthers.setCell _ _ _).same D _ ((KeepsOthers.setCell _ _ _).same D _ hK rfl) rfl
    have R0 : Boxed W3 w.heap.size 23 (.slice pa l.length ca) := by rw [← hW3]; exact boxed_of_heap (h5.set _) (one_set _ (by omega))
    have R1 : Boxed W3 (w.heap.size + 1) 4 (.bool true) := by rw [← hW3]; exact (boxed_of_heap h6 (one_set _ (by omega))).set _
    have hB3 : Below w.heap.size w W3 := by rw [← hW3]; exact (hB.setCell (p := ⟨w.heap.size, 0, none⟩) (by simp) _).setCell (p := ⟨w.heap.size + 1, 0, none⟩) (by simp) _
    have hk3 : ∀ k, w.heap.size + 6 ≤ k → W3.heap[k]? = W.heap[k]? := by intro k hk; rw [← hW3]; exact two_sets k (by omega) (by omega)
    rw [hW3]
    have hg := grownBy_putObj' W3 D (.deferred none)
    have hr : ∀ r, some D = some r → ∃ o : Obj, W3.heap[r]? = some o ∧ o.isCells = false := fun r e => by cases e; exact ⟨_, hK3, rfl⟩
    have Q0 := (boxed_own' hg hr R0).cell
    have Q1 := (boxed_own' hg hr R1).cell
    refine ⟨by simp, .inl ⟨_, _, rfl, run_takeDeferred hK3, ?_⟩⟩
    refine ⟨.tuple #[.slice pa l.length ca, .bool true], by simp [results, Tryd.f27, go_sem, Q0, Q1], .slice pa l.length ca, by rw [Hp.out], ?_, hB3.trans (belowK_b (w := w) (Nat.le_refl _) W3 D _ _ (by omega) hK3 rfl rfl)⟩
    rw [Hp.out]
    exact ownsRow_low (ownsRow_own' hg hr (ownsRow_of_heap h2 (fun k hk => hk3 k (h2.lt k hk).1))) (by omega)
  case stop =>
    rintro D c pre W hD hpre ⟨⟨rfl, h5, h6, h7⟩, hB⟩ hK
    clear b0 b1 b2 b5 hB8
    have hpn : parseW (splitL s) = ([], false) := by
      unfold parseW
      rw [if_neg]
      intro hall
      rw [spansB, List.all_eq_true] at hall
      rw [spansB, List.all_eq_false] at h7
      obtain ⟨x, hx, hx'⟩ := h7
      exact hx' (hall x (hpre.subset hx))
    have Hp := hide hpn
    clear hpn h7
    gi_wp2
    have hg := grownBy_putObj' W D (.deferred none)
    have hr : ∀ r, some D = some r → ∃ o : Obj, W.heap[r]? = some o ∧ o.isCells = false := fun r e => by cases e; exact ⟨_, hK, rfl⟩
    have Q0 := (boxed_own' hg hr h5).cell
    have Q1 := (boxed_own' hg hr h6).cell
    refine ⟨by simp, .inl ⟨_, _, rfl, run_takeDeferred hK, ?_⟩⟩
    exact ⟨.tuple #[.slice none 0 0, .bool false], by simp [results, Tryd.f27, go_sem, Q0, Q1], .slice none 0 0, by rw [Hp.out], by rw [Hp.out]; exact World.ownsRow_nil _ _ _ _, hB.trans (belowK_b (w := w) (Nat.le_refl _) W D _ _ (by omega) hK rfl rfl)⟩

/-- A text as spans, and whether it is a text of such. -/
def parseT (s : List UInt8) : MapD × Bool := if s = [] then ([], true) else parseW (splitL s)
/-- A text as a map, and the error's number. -/
def parseM (s : List UInt8) : MapD × Int := if (parseT s).2 = true then (if okMap (parseT s).1 = true then ((parseT s).1, 0) else ([], 1)) else ([], 2)

set_option maxHeartbeats 1000000 in
theorem parseSpans_calls (s : List UInt8) (w : World) (hs : s.length ≤ 1073741824) :
    Calls Tryd.prog 27 #[.string ⟨s.toArray⟩] w fun e w' => ∃ v, e = .returned (.tuple #[v, .bool (parseT s).2]) ∧ OwnsM w' w.heap.size v (parseT s).1 ∧ Below w.heap.size w w' := by
  by_cases hne : s = []
  · subst hne
    go_enter Tryd.func27, Tryd.ntmps27
    go_wp2
    have b0 : Boxed ((w.alloc (.cells #[.slice none 0 0] 23)).alloc (.cells #[.bool true] 4)) w.heap.size 23 (.slice none 0 0) := (boxed_new' rfl).alloc _
    have b1 : Boxed ((w.alloc (.cells #[.slice none 0 0] 23)).alloc (.cells #[.bool true] 4)) (w.heap.size + 1) 4 (.bool true) := boxed_new' (by simp)
    exact bodyPost_ret (v := .tuple #[.slice none 0 0, .bool true]) (by simp [results, Tryd.f27, go_sem, b0.cell, b1.cell]) rfl ⟨_, rfl, World.ownsRow_nil _ _ _ _, ((Below.refl _ w).alloc (Nat.le_refl _) _).alloc (by simp) _⟩
  · have e : parseT s = parseW (splitL s) := by unfold parseT; rw [if_neg hne]
    rw [e]
    exact parseSpansO_calls s w hs hne

set_option maxHeartbeats 1000000 in
theorem mapParse_calls (s : List UInt8) (w : World) (hs : s.length ≤ 1073741824) :
    Calls Tryd.prog 19 #[.string ⟨s.toArray⟩] w fun e w' => ∃ v, e = .returned (.tuple #[v, .int .i64 (parseM s).2]) ∧ OwnsM w' w.heap.size v (parseM s).1 ∧ Below w.heap.size w w' := by
  have C := hide (parseSpans_calls s w hs)
  have hlen : (parseT s).1.length ≤ 1073741825 := by
    unfold parseT parseW spansOf
    have := splitL_length s
    split
    · simp
    · split
      · simp; omega
      · simp
  obtain ⟨r, hr⟩ : ∃ r, parseM s = r := ⟨_, rfl⟩
  rw [hr]
  unfold parseM at hr
  generalize parseT s = p at *
  obtain ⟨m, ok⟩ := p
  dsimp only at *
  cases ok with
  | false =>
    rw [if_neg (by simp)] at hr
    subst hr
    go_enter Tryd.func19, Tryd.ntmps19
    go_wp2_with (go_at_call 27; refine C.out.mono ?_; rintro e w1 ⟨v, rfl, hown, hB⟩)
    go_ret2
    exact ⟨_, rfl, World.ownsRow_nil _ _ _ _, hB⟩
  | true =>
    rw [if_pos rfl] at hr
    by_cases hok : okMap m = true
    · have hc0 : checkM m = 0 := by rw [checkM, if_pos hok]
      rw [if_pos hok] at hr
      subst hr
      go_enter Tryd.func19, Tryd.ntmps19
      go_wp2_with (first | (go_at_call 27; refine C.out.mono ?_; rintro e w1 ⟨v, rfl, hown, hB⟩; have K := hide (mapCheck_calls _ m w1 (OwnsM.map hown) (by omega)); rw [hc0] at K; obtain ⟨a1, cap1, rfl⟩ := ownsRow_slice hown; clear C) | (go_at_call 14; refine K.out.mono ?_; rintro e w2 ⟨rfl, hB2⟩))
      go_ret2
      exact ⟨_, rfl, ownsRow_of_heap hown fun k e => hB2.block k (hown.lt k e).2, hB.trans (hB2.mono hB.size)⟩
    · have hc0 : checkM m = 1 := by rw [checkM, if_neg hok]
      rw [if_neg hok] at hr
      subst hr
      go_enter Tryd.func19, Tryd.ntmps19
      go_wp2_with (first | (go_at_call 27; refine C.out.mono ?_; rintro e w1 ⟨v, rfl, hown, hB⟩; have K := hide (mapCheck_calls _ m w1 (OwnsM.map hown) (by omega)); rw [hc0] at K; obtain ⟨a1, cap1, rfl⟩ := ownsRow_slice hown; clear C) | (go_at_call 14; refine K.out.mono ?_; rintro e w2 ⟨rfl, hB2⟩))
      go_ret2
      exact ⟨_, rfl, World.ownsRow_nil _ _ _ _, hB.trans (hB2.mono hB.size)⟩

end Go.Proofs.YtndhkbmgpjjepaaDoor

/- Ranges over functions that stand in each other: a sequence that goes over others, each round within a round. Own work; no statement. -/
set_option linter.unusedSimpArgs false
set_option linter.unusedVariables false
namespace Go.Proofs.YtndhkbmgpjjepaaDoor
open Go.RowKit Go.Shelf

section
variable {α : Type} {P : Program} {n : Nat}

theorem room_wide' (k : Nat) : Fence.wide.room k := fun _ h => by cases h
theorem yield_any {m : Nat} (m' : Nat) {l : Nat} {args : Array Value} {W : World} {R : Ending → World → Prop} (h : YieldAt Fence.wide m P l args W R) : YieldAt Fence.wide m' P l args W R := by
  obtain ⟨fn, tmps, assign, body, hy, hR⟩ := h
  exact ⟨fn, tmps, assign, body, hy, hR.1, fun c cs _ => hR.2 c cs (room_wide' _)⟩

/-- The iterator's contract: it hands over xs, one by one, as long as it is asked; it makes memory of its own between. -/
def SeqO (n : Nat) (P : Program) (g : Nat) (lb : Array Value) (encs : α → Array Value) (Kp : World → World → Prop) (xs : List α) (w : World) : Prop :=
  ∀ (l : Nat) (J Jx : Nat → World → Prop) (W : World), Below w.heap.size w W → OwnFrom W.heap.size J →
    (∀ k (h : k < xs.length) A, J k A → YieldAt Fence.wide (n - 1) P l (encs xs[k]) A fun e C => (e = .returned (.bool true) ∧ J (k + 1) C ∧ Kp A C) ∨ (e = .returned (.bool false) ∧ Jx k C)) →
    J 0 W → CallsIn Fence.wide n P g (#[.func (.yield l) #[] #[]] ++ lb) W fun e B => (∃ v, e = .returned v) ∧ (J xs.length B ∨ ∃ k, k < xs.length ∧ Jx k B)

theorem book_own {D : Nat} {r : Loop} {β : Type} : OwnFrom (D + 2) (fun (_ : β) W => Book D r W) := fun _ X Y row h hg hr =>
  ⟨(hg.block _ (ltAt h.1) fun e => by have := (hr _ e.symm).1; omega).trans h.1, (hg.block _ (ltAt h.2) fun e => by have := (hr _ e.symm).1; omega).trans h.2⟩

/-- A range over such a function, out of every round; the body is told of its own record. -/
theorem range_lawO {g : Operand} {ps : Array Tmp} {assign body : Code} {Q : Exit → Act → World → Prop} {a : Act} {w : World} (h1 : 1 ≤ n) {gf : Nat} {lb : Array Value} (hg : a.eval g = .func (.func gf) #[] lb)
    (eg : ∀ args w, (callFunc gf args).run P w = .ok (.enter gf args) w) {encs : α → Array Value} {Kp : World → World → Prop} {xs : List α} (hseq : SeqO (n - 1) P gf lb encs Kp xs w)
    (hKt : ∀ {A B C : World}, Kp A B → Kp B C → Kp A C) (hKb : ∀ (W : World) (l : Nat) (o o' : Obj), w.heap.size ≤ l → W.heap[l]? = some o → o.isCells = false → o.isWalk = false → Kp W (W.putObj l o'))
    (hps : ∀ x, (encs x).size = ps.size)
    (I : Nat → World → Prop) (Ix : Code → Nat → World → Prop) (hI : OwnFrom w.heap.size I) (hIx : ∀ c, OwnFrom w.heap.size (Ix c))
    (h0 : I 0 w) (Ax : α → Act → World → Prop) (hAx : ∀ x a', OwnFrom w.heap.size (fun (_ : Unit) W => Ax x a' W))
    (hassign : ∀ (l k : Nat) (h : k < xs.length) (W : World) (K : Act → World → Prop), I k W → (∀ a' W', KeepsFrom w.heap.size W W' → Kp W W' → I k W' → Ax xs[k] a' W' → K a' W') →
      assign.wpIn (Fence.wide.inRound l) (n - 1 - 1) P (Exit.then K (fun _ _ _ => False)) { tmps := (ps.zip (encs xs[k])).foldl (fun t (p, v) => t.setIfInBounds p v) a.tmps, defers := [] } W)
    (hbody : ∀ (l k : Nat) (h : k < xs.length) (a' : Act) (W : World), w.heap.size ≤ l → (∃ r, W.heap[l]? = some (.loop r)) → I k W → Ax xs[k] a' W → body.wpIn (Fence.wide.inRound l) (n - 1 - 1) P (postL w.heap.size Kp I Ix k W) a' W)
    (hdone : ∀ (D : Nat) (W : World), w.heap.size ≤ D → I xs.length W → W.heap[D]? = some (.deferred (some [])) → Q .normal { a with defers := { target := .collected D, args := #[] } :: a.defers } W)
    (hstop : ∀ (D : Nat) (c : Code) (k : Nat) (W : World), w.heap.size ≤ D → k < xs.length → Ix c k W → W.heap[D]? = some (.deferred (some [])) → c.wpIn Fence.wide n P Q { a with defers := { target := .collected D, args := #[] } :: a.defers } W) :
    (Code.rangeFunc g ps assign body).wpIn Fence.wide n P Q a w := by
  refine wpIn_rangeFunc fun fn _ => ?_
  generalize hD : w.heap.size = D at *
  let r : Loop := { state := .ready, pending := none, fn, tmps := a.tmps, params := ps, assign, body, defers := D }
  let w1 : World := (w.alloc (.deferred (some []))).alloc (.loop r)
  have bk1 : Book D r w1 := by
    refine ⟨?_, ?_⟩
    · have := World.alloc_heap_new (w.alloc (.deferred (some []))) (.loop r)
      rwa [World.size_alloc, hD] at this
    · have := World.alloc_heap_new w (.deferred (some []))
      rw [hD] at this
      exact (Below.heap_alloc _ _ _ (by simp; omega)).trans this
  have hs1 : w1.heap.size = D + 2 := by simp [w1, hD]
  have i1 : I 0 w1 := hI.alloc _ (hI.alloc _ h0)
  have b1 : Below w.heap.size w w1 := ((Below.refl _ w).alloc (Nat.le_refl _) _).alloc (by simp) _
  refine ⟨D + 1, [{ target := .collected D, args := #[] }], w1, { target := .fn (.func gf) lb, args := #[.func (.yield (D + 1)) #[] #[]] }, w1, gf, #[.func (.yield (D + 1)) #[] #[]] ++ lb, w1, ?_, ?_, fun _ _ => trivial, ?_, fun _ => h1, ?_⟩
  · rw [← hD]
    have := run_enterLoop_outer (P := P) (w := w) fn a.tmps ps assign body
    simp only [w1, r, ← hD]
    exact this
  · simp only [resolve, hg]
    simp [go_sem]
  · simp [invoke, go_sem, eg]
  · refine (hseq (D + 1) (fun k W => I k W ∧ Book D r W) (fun k W => ∃ c, Ix c k W ∧ Book D { r with state := .done, pending := some c } W) w1 b1
      (fun s X Y row h hg hr => ⟨hI s X Y row h.1 hg (fun q e => ⟨by have := (hr q e).1; omega, (hr q e).2⟩), book_own (β := Unit) () X Y row h.2 hg (fun q e => ⟨by have := (hr q e).1; omega, (hr q e).2⟩)⟩) ?_ ⟨i1, bk1⟩).mono ?_
    · rintro k hk W ⟨hi, hb⟩
      refine ⟨fn, _, assign, body, run_yield hb.1 (hps xs[k]), roundIn_of_wpIn trivial (hassign _ k hk W _ hi fun a' W' hkf hkp hi' hax => ?_)⟩
      have hbW : Book D r W' := hb.from (Nat.le_refl _) hkf
      refine ⟨_, run_beginRound hbW.1 rfl, ?_⟩
      have hb2 := hbW.put { r with state := .busy }
      have k2 : Kp W (W'.putObj (D + 1) (.loop { r with state := .busy })) := hKt hkp (hKb _ _ _ _ (by omega) hbW.1 rfl rfl)
      refine wpIn_mono (hbody _ k hk a' _ (by omega) ⟨_, hb2.1⟩ (hI.putObj _ hi' (by omega) hbW.1 rfl) ((hAx _ a').putObj (s := ()) _ hax (by omega) hbW.1 rfl)) fun e a3 W3 hp => ?_
      have left : ∀ c, KeepsFrom D (W'.putObj (D + 1) (.loop { r with state := .busy })) W3 → Ix c k W3 → ∃ v W4, (Instr.endRound (D + 1) (some c)).run P W3 = .ok v W4 ∧ ((Ending.returned v = .returned (.bool true) ∧ (I (k + 1) W4 ∧ Book D r W4) ∧ Kp W W4) ∨ (Ending.returned v = .returned (.bool false) ∧ ∃ c, Ix c k W4 ∧ Book D { r with state := .done, pending := some c } W4)) := fun c hk' hi3 => by
        obtain ⟨hr, hl, hb4⟩ := round_end (P := P) hb2 (some c) hk'
        exact ⟨_, _, hr, .inr ⟨rfl, c, (hIx c).putObj _ hi3 (by omega) hl rfl, hb4⟩⟩
      cases e with
      | normal =>
        obtain ⟨hk', hkp, hi3⟩ := hp
        obtain ⟨hr, hl, hb4⟩ := round_end (P := P) hb2 none hk'
        exact ⟨_, _, hr, .inl ⟨rfl, ⟨hI.putObj _ hi3 (by omega) hl rfl, hb4⟩, hKt (hKt k2 hkp) (hKb _ _ _ _ (by omega) hl rfl rfl)⟩⟩
      | ret => exact left _ hp.1 hp.2
      | exit id => exact left _ hp.1 hp.2
      | goto t => exact left _ hp.1 hp.2
      | panic _ => exact hp.elim
      | outgrown => exact hp.elim
    · rintro e W2 ⟨⟨v, rfl⟩, (⟨hi, hb⟩ | ⟨k, hk, c, hi, hb⟩)⟩
      · exact ⟨none, _, run_endLoop hb.1 (by simp [r]), hdone _ _ (Nat.le_refl _) (hI.putObj _ hi (by omega) hb.1 rfl) (hb.put _).2⟩
      · exact ⟨some c, _, run_endLoop hb.1 (by simp), hstop _ c k _ (Nat.le_refl _) hk ((hIx c).putObj _ hi (by omega) hb.1 rfl) (hb.put _).2⟩

/-- The same within a round of the loop l₀. -/
theorem range_lawN {l₀ : Nat} {r₀ : Loop} {g : Operand} {ps : Array Tmp} {assign body : Code} {Q : Exit → Act → World → Prop} {a : Act} {w : World} (hl₀ : w.heap[l₀]? = some (.loop r₀)) (h1 : 1 ≤ n) {gf : Nat} {lb : Array Value} (hg : a.eval g = .func (.func gf) #[] lb)
    (eg : ∀ args w, (callFunc gf args).run P w = .ok (.enter gf args) w) {encs : α → Array Value} {Kp : World → World → Prop} {xs : List α} (hseq : SeqO (n - 1) P gf lb encs Kp xs w)
    (hKt : ∀ {A B C : World}, Kp A B → Kp B C → Kp A C) (hKb : ∀ (W : World) (l : Nat) (o o' : Obj), w.heap.size ≤ l → W.heap[l]? = some o → o.isCells = false → o.isWalk = false → Kp W (W.putObj l o'))
    (hps : ∀ x, (encs x).size = ps.size)
    (I : Nat → World → Prop) (Ix : Code → Nat → World → Prop) (hI : OwnFrom w.heap.size I) (hIx : ∀ c, OwnFrom w.heap.size (Ix c))
    (h0 : I 0 w) (a₁ : α → Act)
    (hassign : ∀ (l : Nat) (x : α) (W : World) (K : Act → World → Prop), K (a₁ x) W →
      assign.wpIn (Fence.wide.inRound l) (n - 1 - 1) P (Exit.then K (fun _ _ _ => False)) { tmps := (ps.zip (encs x)).foldl (fun t (p, v) => t.setIfInBounds p v) a.tmps, defers := [] } W)
    (hbody : ∀ (l k : Nat) (h : k < xs.length) (W : World), I k W → body.wpIn (Fence.wide.inRound l) (n - 1 - 1) P (postL w.heap.size Kp I Ix k W) (a₁ xs[k]) W)
    (hdone : ∀ (W : World), I xs.length W → Q .normal a W)
    (hstop : ∀ (c : Code) (k : Nat) (W : World), k < xs.length → Ix c k W → c.wpIn (Fence.wide.inRound l₀) n P Q a W) :
    (Code.rangeFunc g ps assign body).wpIn (Fence.wide.inRound l₀) n P Q a w := by
  refine wpIn_rangeFunc fun fn _ => ?_
  generalize hD : w.heap.size = D at *
  let r : Loop := { state := .ready, pending := none, fn, tmps := a.tmps, params := ps, assign, body, defers := r₀.defers }
  let w1 : World := w.alloc (.loop r)
  have bk1 : w1.heap[D]? = some (.loop r) := by rw [← hD]; exact World.alloc_heap_new w _
  have hs1 : w1.heap.size = D + 1 := by simp [w1, hD]
  have i1 : I 0 w1 := hI.alloc _ h0
  have b1 : Below w.heap.size w w1 := (Below.refl _ w).alloc (Nat.le_refl _) _
  refine ⟨D, [], w1, { target := .fn (.func gf) lb, args := #[.func (.yield D) #[] #[]] }, w1, gf, #[.func (.yield D) #[] #[]] ++ lb, w1, ?_, ?_, fun _ _ => trivial, ?_, fun _ => h1, ?_⟩
  · rw [← hD]
    have := run_enterLoop_inner (P := P) hl₀ fn a.tmps ps assign body
    simp only [w1, r]
    exact this
  · simp only [resolve, hg]
    simp [go_sem]
  · simp [invoke, go_sem, eg]
  · refine (CallsIn.inRound l₀ (hseq D (fun k W => I k W ∧ W.heap[D]? = some (.loop r)) (fun k W => ∃ c, Ix c k W ∧ W.heap[D]? = some (.loop { r with state := .done, pending := some c })) w1 b1
      (fun s X Y row h hg hr => ⟨hI s X Y row h.1 hg (fun q e => ⟨by have := (hr q e).1; omega, (hr q e).2⟩), (hg.block _ (ltAt h.2) fun e => by have := (hr _ e.symm).1; omega).trans h.2⟩) ?_ ⟨i1, bk1⟩)).mono ?_
    · rintro k hk W ⟨hi, hb⟩
      refine ⟨fn, _, assign, body, run_yield hb (hps xs[k]), roundIn_of_wpIn trivial (hassign _ xs[k] W _ ⟨_, run_beginRound hb rfl, ?_⟩)⟩
      have hlt := ltAt hb
      have hb2 : (W.putObj D (.loop { r with state := .busy })).heap[D]? = some (.loop { r with state := .busy }) := World.putObj_heap_same hlt
      have k2 : Kp W (W.putObj D (.loop { r with state := .busy })) := hKb _ _ _ _ (Nat.le_refl _) hb rfl rfl
      refine wpIn_mono (hbody _ k hk _ (hI.putObj _ hi (Nat.le_refl _) hb rfl)) fun e a3 W3 hp => ?_
      have fin : ∀ (jump : Option Code), KeepsFrom D (W.putObj D (.loop { r with state := .busy })) W3 → (Instr.endRound D jump).run P W3 = .ok (.bool jump.isNone) (W3.putObj D (.loop { r with state := if jump.isNone then .ready else .done, pending := jump })) ∧ W3.heap[D]? = some (.loop { r with state := .busy }) ∧
          (W3.putObj D (.loop { r with state := if jump.isNone then .ready else .done, pending := jump })).heap[D]? = some (.loop { r with state := if jump.isNone then .ready else .done, pending := jump }) := fun jump hk' =>
        have hl3 := hk'.same _ _ (Nat.le_refl _) hb2 rfl
        ⟨by have := run_endRound (P := P) jump hl3; exact this, hl3, World.putObj_heap_same (ltAt hl3)⟩
      have left : ∀ c, KeepsFrom D (W.putObj D (.loop { r with state := .busy })) W3 → Ix c k W3 → ∃ v W4, (Instr.endRound D (some c)).run P W3 = .ok v W4 ∧ ((Ending.returned v = .returned (.bool true) ∧ (I (k + 1) W4 ∧ W4.heap[D]? = some (.loop r)) ∧ Kp W W4) ∨ (Ending.returned v = .returned (.bool false) ∧ ∃ c, Ix c k W4 ∧ W4.heap[D]? = some (.loop { r with state := .done, pending := some c }))) := fun c hk' hi3 => by
        obtain ⟨hr, hl, hb4⟩ := fin (some c) hk'
        exact ⟨_, _, hr, .inr ⟨rfl, c, (hIx c).putObj _ hi3 (Nat.le_refl _) hl rfl, hb4⟩⟩
      cases e with
      | normal =>
        obtain ⟨hk', hkp, hi3⟩ := hp
        obtain ⟨hr, hl, hb4⟩ := fin none hk'
        exact ⟨_, _, hr, .inl ⟨rfl, ⟨hI.putObj _ hi3 (Nat.le_refl _) hl rfl, hb4⟩, hKt (hKt k2 hkp) (hKb _ _ _ _ (Nat.le_refl _) hl rfl rfl)⟩⟩
      | ret => exact left _ hp.1 hp.2
      | exit id => exact left _ hp.1 hp.2
      | goto t => exact left _ hp.1 hp.2
      | panic _ => exact hp.elim
      | outgrown => exact hp.elim
    · rintro e W2 ⟨⟨v, rfl⟩, (⟨hi, hb⟩ | ⟨k, hk, c, hi, hb⟩)⟩
      · exact ⟨none, _, run_endLoop hb (by simp [r]), hdone _ (hI.putObj _ hi (Nat.le_refl _) hb rfl)⟩
      · exact ⟨some c, _, run_endLoop hb (by simp), hstop c k _ hk ((hIx c).putObj _ hi (Nat.le_refl _) hb rfl)⟩
end

end Go.Proofs.YtndhkbmgpjjepaaDoor

/- stripe's dealt and ended: their sequences. Own work; no statement. -/
set_option linter.unusedSimpArgs false
set_option linter.unusedVariables false
namespace Go.Proofs.YtndhkbmgpjjepaaDoor
open Go.RowKit Go.Shelf

attribute [local go_sem] Oper.semAt_some

/-- What a round must keep: the blocks of G. -/
def KeepsB (G : Nat → Prop) (A C : World) : Prop := ∀ b, G b → C.heap[b]? = A.heap[b]?
theorem keepsB_t {G : Nat → Prop} {A B C : World} (h : KeepsB G A B) (k : KeepsB G B C) : KeepsB G A C := fun b hb => (k b hb).trans (h b hb)
theorem keepsB_b {G : Nat → Prop} {n : Nat} (hg : ∀ b, G b → b < n) (W : World) (l : Nat) (o o' : Obj) (hl : n ≤ l) (_ : W.heap[l]? = some o) (_ : o.isCells = false) (_ : o.isWalk = false) : KeepsB G W (W.putObj l o') := fun b hb => by
  have := hg b hb
  exact World.putObj_heap_other (by omega)

/-- The positions that are left, the last ones ahead of e: as many as fuel lasts. -/
def stepL (N e : Int) : Nat → Int → List Int
  | 0, _ => []
  | f + 1, left => if left ≤ 0 then [] else (e - left) :: stepL N e f (left - N)
theorem stepL_none (N e : Int) (f : Nat) (left : Int) (h : left ≤ 0) : stepL N e f left = [] := by
  cases f with
  | zero => rfl
  | succ f => rw [stepL, if_pos h]
theorem stepL_fuel {N e : Int} (hN : 1 ≤ N) : ∀ (f g : Nat) (left : Int), left ≤ f → left ≤ g → stepL N e f left = stepL N e g left
  | 0, g, left, h, _ => by rw [stepL_none _ _ g _ (by omega)]; rfl
  | f + 1, 0, left, _, h => by rw [stepL_none _ _ (f + 1) _ (by omega)]; rfl
  | f + 1, g + 1, left, h1, h2 => by
    unfold stepL
    split
    · rfl
    · rw [stepL_fuel hN f g (left - N) (by omega) (by omega)]
theorem stepL_cons {N e : Int} (hN : 1 ≤ N) {left : Int} (h : 0 < left) : stepL N e left.toNat left = (e - left) :: stepL N e (left - N).toNat (left - N) := by
  obtain ⟨f, hf⟩ : ∃ f, left.toNat = f + 1 := ⟨left.toNat - 1, by omega⟩
  rw [hf, stepL, if_neg (by omega), stepL_fuel hN f (left - N).toNat (left - N) (by omega) (by omega)]
theorem wrap64_mid (n : Int) (h : -9223372036854775808 ≤ n) (h' : n ≤ 9223372036854775807) : wrap64 n = n := by unfold wrap64; omega
/-- Where a stripe's first one is. -/
def leftL (x : Int × Int) (k a e : Int) : Int := e - max a x.1 - (k - (max a x.1 - x.1)) % x.2
/-- What a stripe has of a span, from a on and below e. -/
def dealtL (x : Int × Int) (k a e : Int) : List Int := if k < 0 ∨ x.2 ≤ k ∨ e ≤ max a x.1 then [] else stepL x.2 e (leftL x k a e).toNat (leftL x k a e)

/-- A number handed over. -/
def encInt (x : Int) : Array Value := #[.int .i64 x]

set_option maxHeartbeats 1000000 in
theorem dealt_calls (x : Int × Int) (k a e : Int) (w : World) :
    Calls Tryd.prog 34 #[.agg #[.int .i64 x.1, .int .i64 x.2], .int .i64 k, .int .i64 a, .int .i64 e] w fun en w' =>
      en = .returned (.func (.func 40) #[] #[.pointer (some ⟨w.heap.size + 2, 0, none⟩), .pointer (some ⟨w.heap.size, 0, none⟩), .pointer (some ⟨w.heap.size + 1, 0, none⟩), .pointer (some ⟨w.heap.size + 3, 0, none⟩)]) ∧
      w' = (((w.alloc (.cells #[.int .i64 x.1, .int .i64 x.2] 48)).alloc (.cells #[.int .i64 k] 3)).alloc (.cells #[.int .i64 a] 3)).alloc (.cells #[.int .i64 e] 3) := by
  have hmf : ∀ (fn : Fn) (first cap : Array Value) (w : World), (Instr.makeFunc fn first cap).run Tryd.prog w = .ok (.func fn first cap) w := fun _ _ _ _ => rfl
  go_enter Tryd.func34, Tryd.ntmps34
  go_wp2
  go_ret
  exact ⟨rfl, rfl⟩

/-- The four boxes that dealt's sequence goes by. -/
structure IsDealt (w : World) (b : Nat) (x : Int × Int) (k a e : Int) : Prop where
  s : w.heap[b]? = some (.cells #[.int .i64 x.1, .int .i64 x.2] 48 (0, 0))
  k : Boxed w (b + 1) 3 (.int .i64 k)
  a : Boxed w (b + 2) 3 (.int .i64 a)
  e : Boxed w (b + 3) 3 (.int .i64 e)
theorem IsDealt.keep {w w' : World} {b : Nat} {x : Int × Int} {k a e : Int} (h : IsDealt w b x k a e) (hk : ∀ c, b ≤ c → c < b + 4 → w'.heap[c]? = w.heap[c]?) : IsDealt w' b x k a e :=
  ⟨(hk b (by omega) (by omega)).trans h.s, boxed_of_heap h.k (hk _ (by omega) (by omega)), boxed_of_heap h.a (hk _ (by omega) (by omega)), boxed_of_heap h.e (hk _ (by omega) (by omega))⟩

set_option maxRecDepth 100000 in
set_option maxHeartbeats 2000000 in
theorem dealt_seq (n : Nat) (hn : 1 ≤ n) (b : Nat) (x : Int × Int) (k a e : Int) (w : World) (hd : IsDealt w b x k a e) (hx : 0 ≤ x.1 ∧ x.1 ≤ 9223372036854775807 ∧ 1 ≤ x.2 ∧ x.2 ≤ 8) (hk : -1048576 ≤ k ∧ k ≤ 1048576) (ha : 0 ≤ a ∧ a ≤ 1048576) (he : 0 ≤ e ∧ e ≤ 1048576) :
    SeqO n Tryd.prog 40 #[.pointer (some ⟨b + 2, 0, none⟩), .pointer (some ⟨b, 0, none⟩), .pointer (some ⟨b + 1, 0, none⟩), .pointer (some ⟨b + 3, 0, none⟩)] encInt (KeepsB fun c => b ≤ c ∧ c < b + 4) (dealtL x k a e) w := by
  intro lp J Jx W hW hJo hY h0
  obtain ⟨F, N⟩ := x
  dsimp only at hx
  have hd := hd.keep (w' := W) (fun c h1 h2 => hW.block c (by have := hd.e.lt; omega))
  have cs0 := cellsAt hd.s 0
  have cs1 := cellsAt hd.s 1
  simp only [List.getElem?_toArray, List.getElem?_cons_zero, List.getElem?_cons_succ] at cs0 cs1
  have ck := hd.k.cell
  have ca := hd.a.cell
  have ce := hd.e.cell
  obtain ⟨xs, hxs⟩ : ∃ xs, dealtL (F, N) k a e = xs := ⟨_, rfl⟩
  rw [hxs] at hY ⊢
  unfold dealtL at hxs
  dsimp only at hxs
  have HY := hide hY
  have Hd := hide hd
  have HJ := hide hJo
  clear hY hJo hd hW
  have hN0 : (N == 0) = false := by rw [beq_eq_false_iff_ne]; omega
  refine callsIn_of_wp Tryd.func40 rfl trivial ?_ rfl
  simp only [Tryd.ntmps40, List.size_toArray, List.length_cons, List.length_nil, Nat.reduceAdd, Nat.reduceSub, Array.replicate_succ, Array.replicate_zero, List.push_toArray, List.append_toArray, List.nil_append, List.cons_append]
  by_cases hbad : k < 0 ∨ N ≤ k ∨ e ≤ max a F
  · rw [if_pos hbad] at hxs
    subst hxs
    by_cases h1 : k < 0
    · gi_wp2
      refine bodyPost_ret (results_none rfl _ _ _) rfl ?_
      first | exact ⟨⟨_, rfl⟩, h0⟩ | exact ⟨⟨_, rfl⟩, Or.inl h0⟩
    · by_cases h2 : N ≤ k
      · gi_wp2
        refine bodyPost_ret (results_none rfl _ _ _) rfl ?_
        first | exact ⟨⟨_, rfl⟩, h0⟩ | exact ⟨⟨_, rfl⟩, Or.inl h0⟩
      · have h3 : e ≤ max a F := by omega
        gi_wp2
        refine bodyPost_ret (results_none rfl _ _ _) rfl ?_
        first | exact ⟨⟨_, rfl⟩, h0⟩ | exact ⟨⟨_, rfl⟩, Or.inl h0⟩
  · rw [if_neg hbad] at hxs
    have h1 : ¬ k < 0 := by omega
    have h2 : ¬ N ≤ k := by omega
    have h3 : ¬ e ≤ max a F := by omega
    have hr0 := Int.emod_nonneg (max a F - F) (show N ≠ 0 by omega)
    have hr1 := Int.emod_lt_of_pos (max a F - F) (show 0 < N by omega)
    have hw1 : wrap64 (k - (max a F - F) % N) = k - (max a F - F) % N := wrap64_mid _ (by omega) (by omega)
    have hw2 : wrap64 (k - (max a F - F) % N + N) = k - (max a F - F) % N + N := wrap64_mid _ (by omega) (by omega)
    have ht : (k - (max a F - F) % N + N).tmod N = (k - (max a F - F) % N + N) % N := Int.tmod_eq_emod_of_nonneg (by omega)
    have hs0 := Int.emod_nonneg (k - (max a F - F)) (show N ≠ 0 by omega)
    have hs1 := Int.emod_lt_of_pos (k - (max a F - F)) (show 0 < N by omega)
    have hw3 : wrap64 (e - max a F - (k - (max a F - F)) % N) = e - max a F - (k - (max a F - F)) % N := wrap64_mid _ (by omega) (by omega)
    have hL : e - max a F - (k - (max a F - F)) % N ≤ 1048576 ∧ -1048576 ≤ e - max a F - (k - (max a F - F)) % N := by omega
    unfold leftL at hxs
    dsimp only at hxs
    gi_wp2
    (try simp only [hw1, hw2, ht, hw3])
    generalize e - max a F - (k - (max a F - F)) % N = L0 at *
    clear hr0 hr1 hw1 hw2 ht hs0 hs1 hw3 cs0 ck ca
    gi_loopw [9] (fun lf wr => ∃ (i : Nat) (L : Int), lf = .int .i64 L ∧ L ≤ L0 ∧ -8 ≤ L + 1048576 ∧ i ≤ xs.length ∧ xs.drop i = stepL N e L.toNat L ∧ J i wr ∧ KeepsB (fun c => b ≤ c ∧ c < b + 4) W wr) (fun lf _ => (intOf lf).toNat)
    case atStart => exact ⟨0, L0, rfl, Int.le_refl _, by omega, Nat.zero_le _, hxs.symm, h0, fun _ _ => rfl⟩
    case round =>
      obtain ⟨i, L, rfl, hL1, hL2, hi, hdr, hJi, hkp⟩ := hrel
      have hd2 := Hd.out.keep (w' := wr) (fun c h1 h2 => hkp c ⟨h1, h2⟩)
      have cs1 := cellsAt hd2.s 1
      simp only [List.getElem?_toArray, List.getElem?_cons_zero, List.getElem?_cons_succ] at cs1
      have ce := hd2.e.cell
      by_cases hpos : 0 < L
      · rw [stepL_cons (by omega) hpos] at hdr
        have hil : i < xs.length := by
          have := congrArg List.length hdr
          simp at this
          omega
        rw [List.drop_eq_getElem_cons hil] at hdr
        simp only [List.cons.injEq] at hdr
        obtain ⟨hx0, hdr⟩ := hdr
        obtain ⟨fn, tmps, assign, body, hy, hR⟩ := HY.out i hil wr hJi
        rw [hx0] at hy
        dsimp only [encInt] at hy
        have Hdr := hide hdr
        have Hkp := hide hkp
        clear hdr hkp hx0 hd2
        gi_wp2
        refine hR.mono ?_
        rintro en W3 (⟨rfl, hJ3, hk3⟩ | ⟨rfl, hJx3⟩)
        · have cs2 : W3.cell? ⟨b, 1, none⟩ = _ := (World.cell?_of_block (a := ⟨b, 1, none⟩) (hk3 b ⟨by omega, by omega⟩)).trans cs1
          gi_wp2
          exact ⟨⟨i + 1, L - N, rfl, by omega, by omega, by omega, Hdr.out, hJ3, keepsB_t Hkp.out hk3⟩, by simp [intOf]; omega⟩
        · gi_wp2
          refine bodyPost_ret (results_none rfl _ _ _) rfl ?_
          exact ⟨⟨_, rfl⟩, .inr ⟨i, hil, hJx3⟩⟩
      · rw [stepL_none _ _ _ _ (by omega)] at hdr
        have hil : i = xs.length := by
          have := congrArg List.length hdr
          simp at this
          omega
        subst hil
        gi_wp2
        go_end0
        exact ⟨⟨_, rfl⟩, .inl hJi⟩

end Go.Proofs.YtndhkbmgpjjepaaDoor

/- stripe's ended: its sequence; Positions. Own work; no statement. -/
set_option linter.unusedSimpArgs false
set_option linter.unusedVariables false
namespace Go.Proofs.YtndhkbmgpjjepaaDoor
open Go.RowKit Go.Shelf

attribute [local go_sem] Oper.semAt_some

theorem grown_drew (w : World) : w.grownBy w.drew none := ⟨rfl, rfl, rfl, Nat.le_refl _, fun _ _ _ => rfl⟩
/-- Behind which position the i-th epoch ends, ahead of e. -/
def endM (m : MapD) (e : Int) (i : Nat) : Int := if i + 1 < m.length then min (m.getD (i + 1) (0, 0)).1 e else e
/-- The epochs with their ends. -/
def endedL (m : MapD) (e : Int) : List ((Int × Int) × Int) := (List.range m.length).map fun i => (m.getD i (0, 0), endM m e i)
theorem endedL_length (m : MapD) (e : Int) : (endedL m e).length = m.length := by simp [endedL]
theorem endedL_get (m : MapD) (e : Int) (i : Nat) (h : i < (endedL m e).length) : (endedL m e)[i] = (m.getD i (0, 0), endM m e i) := by simp [endedL]
/-- A span and a number handed over. -/
def encSpan (x : (Int × Int) × Int) : Array Value := #[.agg #[.int .i64 x.1.1, .int .i64 x.1.2], .int .i64 x.2]

set_option maxHeartbeats 1000000 in
theorem ended_calls (a : Option Addr) (n cap : Nat) (e : Int) (w : World) :
    Calls Tryd.prog 33 #[.slice a n cap, .int .i64 e] w fun en w' =>
      en = .returned (.func (.func 39) #[] #[.pointer (some ⟨w.heap.size, 0, none⟩), .pointer (some ⟨w.heap.size + 1, 0, none⟩)]) ∧
      w' = (w.alloc (.cells #[.slice a n cap] 23)).alloc (.cells #[.int .i64 e] 3) := by
  have hmf : ∀ (fn : Fn) (first cap : Array Value) (w : World), (Instr.makeFunc fn first cap).run Tryd.prog w = .ok (.func fn first cap) w := fun _ _ _ _ => rfl
  go_enter Tryd.func33, Tryd.ntmps33
  go_wp2
  go_ret
  exact ⟨rfl, rfl⟩

/-- What ended's sequence goes by: the boxes b, b + 1, and the row. -/
def onEnded (b : Nat) (v : Value) (c : Nat) : Prop := c = b ∨ c = b + 1 ∨ v.ownBlock = some c
structure IsEnded (w : World) (b : Nat) (v : Value) (m : MapD) (e : Int) : Prop where
  bm : Boxed w b 23 v
  be : Boxed w (b + 1) 3 (.int .i64 e)
  row : OwnsM w 0 v m
theorem IsEnded.lt {w : World} {b : Nat} {v : Value} {m : MapD} {e : Int} (h : IsEnded w b v m e) {c : Nat} (hc : onEnded b v c) : c < w.heap.size := by
  rcases hc with rfl | rfl | hc
  · exact h.bm.lt
  · exact h.be.lt
  · exact (h.row.lt c hc).2
theorem IsEnded.keep {w w' : World} {b : Nat} {v : Value} {m : MapD} {e : Int} (h : IsEnded w b v m e) (hk : ∀ c, onEnded b v c → w'.heap[c]? = w.heap[c]?) : IsEnded w' b v m e :=
  ⟨boxed_of_heap h.bm (hk _ (.inl rfl)), boxed_of_heap h.be (hk _ (.inr (.inl rfl))), ownsRow_of_heap h.row fun k e => hk k (.inr (.inr e))⟩

set_option maxRecDepth 100000 in
set_option maxHeartbeats 2000000 in
theorem ended_seq (n : Nat) (hn : 1 ≤ n) (b : Nat) (v : Value) (m : MapD) (e : Int) (w : World) (hd : IsEnded w b v m e) (hl : m.length ≤ 1099511627776) :
    SeqO n Tryd.prog 39 #[.pointer (some ⟨b, 0, none⟩), .pointer (some ⟨b + 1, 0, none⟩)] encSpan (KeepsB (onEnded b v)) (endedL m e) w := by
  intro lp J Jx W hW hJo hY h0
  have hd := hd.keep (w' := W) (fun c hc => hW.block c (hd.lt hc))
  obtain ⟨a, cap, rfl⟩ := ownsRow_slice hd.row
  have cm := hd.bm.cell
  have ce := hd.be.cell
  have HY := hide hY
  have Hd := hide hd
  have HJ := hide hJo
  clear hY hJo hd hW
  refine callsIn_of_wp Tryd.func39 rfl trivial ?_ rfl
  simp only [Tryd.ntmps39, List.size_toArray, List.length_cons, List.length_nil, Nat.reduceAdd, Nat.reduceSub, Array.replicate_succ, Array.replicate_zero, List.push_toArray, List.append_toArray, List.nil_append, List.cons_append]
  gi_wp2
  gi_loopw [9] (fun i wr => ∃ k : Nat, k ≤ m.length ∧ i = .int .i64 (k : Int) ∧ J k wr ∧ KeepsB (onEnded b (.slice a m.length cap)) W wr) (fun i _ => m.length - (intOf i).toNat)
  case atStart => exact ⟨0, Nat.zero_le _, rfl, h0, fun _ _ => rfl⟩
  case round =>
    obtain ⟨k, hk, rfl, hJk, hkp⟩ := hrel
    by_cases hlt : k < m.length
    · have hltI : (k : Int) < (m.length : Int) := by omega
      have hd2 := Hd.out.keep (w' := wr) (fun c hc => hkp c hc)
      have hmap := OwnsM.map hd2.row
      obtain ⟨-, g, o, rfl, hgw, c0, c1⟩ := hmap.at k hlt
      have hy := HY.out k (by rw [endedL_length]; exact hlt)
      rw [endedL_get] at hy
      unfold endM at hy
      generalize hxk : m.getD k (0, 0) = xk at *
      obtain ⟨p, q⟩ := xk
      dsimp only [encSpan] at *
      have hJ2 := HJ.out.alloc (.cells #[.int .i64 p, .int .i64 q] 48) hJk
      have hd3 : IsEnded (wr.alloc (.cells #[.int .i64 p, .int .i64 q] 48)) b (.slice (some ⟨g, o, none⟩) m.length cap) m e := hd2.keep fun c hc => Below.heap_alloc _ _ _ (hd2.lt hc)
      have cm := hd3.bm.cell
      have ce := hd3.be.cell
      have hkp3 : KeepsB (onEnded b (.slice (some ⟨g, o, none⟩) m.length cap)) W (wr.alloc (.cells #[.int .i64 p, .int .i64 q] 48)) := fun c hc => (Below.heap_alloc _ _ _ (hd2.lt hc)).trans (hkp c hc)
      have Hkp := hide hkp3
      have Hd3 := hide hd3
      clear hkp hkp3 hd2 hd3 hmap hJk hxk
      by_cases hnx : k + 1 < m.length
      · have hnxI : (k : Int) + 1 < (m.length : Int) := by omega
        rw [if_pos hnx] at hy
        obtain ⟨-, g2, o2, e2, hgw2, c2, -⟩ := (OwnsM.map Hd3.out.row).at (k + 1) hnx
        cases e2
        generalize (m.getD (k + 1) (0, 0)).1 = f at *
        have hJ3 := HJ.out _ _ _ none hJ2 (grown_drew _) (fun r e => by cases e)
        obtain ⟨fn, tmps, assign, body, hy, hR⟩ := hy _ hJ3
        gi_wp2
        refine wpIn_wide.2 ?_
        go_region
        gi_wp2
        refine hR.mono ?_
        rintro en W3 (⟨rfl, hJ3, hk3⟩ | ⟨rfl, hJx3⟩)
        · gi_wp2
          exact ⟨⟨k + 1, by omega, by go_num, hJ3, keepsB_t Hkp.out hk3⟩, by simp [intOf]; omega⟩
        · gi_wp2
          refine bodyPost_ret (results_none rfl _ _ _) rfl ?_
          exact ⟨⟨_, rfl⟩, .inr ⟨k, by rw [endedL_length]; exact hlt, hJx3⟩⟩
      · have hnxI : ¬ (k : Int) + 1 < (m.length : Int) := by omega
        rw [if_neg hnx] at hy
        obtain ⟨fn, tmps, assign, body, hy, hR⟩ := hy _ hJ2
        gi_wp2
        refine hR.mono ?_
        rintro en W3 (⟨rfl, hJ3, hk3⟩ | ⟨rfl, hJx3⟩)
        · gi_wp2
          exact ⟨⟨k + 1, by omega, by go_num, hJ3, keepsB_t Hkp.out hk3⟩, by simp [intOf]; omega⟩
        · gi_wp2
          refine bodyPost_ret (results_none rfl _ _ _) rfl ?_
          exact ⟨⟨_, rfl⟩, .inr ⟨k, by rw [endedL_length]; exact hlt, hJx3⟩⟩
    · obtain rfl : k = m.length := by omega
      gi_wp2
      go_end0
      exact ⟨⟨_, rfl⟩, .inl (by rw [endedL_length]; exact hJk)⟩

end Go.Proofs.YtndhkbmgpjjepaaDoor

/- A sequence that makes memory between the rounds while those who range over it make theirs: who may touch what. Own work; no statement. -/
set_option linter.unusedSimpArgs false
set_option linter.unusedVariables false
namespace Go.Proofs.YtndhkbmgpjjepaaDoor
open Go.RowKit Go.Shelf

/-- From A to C nothing but blocks of T has changed from B on; what is no cells lies as it lay; T' has no older block that T had not. -/
structure KT (B : Nat) (T : Nat → Prop) (A : World) (T' : Nat → Prop) (C : World) : Prop where
  keep : KeepsFrom B A C
  same : ∀ b, B ≤ b → b < A.heap.size → ¬ T b → C.heap[b]? = A.heap[b]?
  old : ∀ b, b < A.heap.size → T' b → T b
theorem KT.refl (B : Nat) (T : Nat → Prop) (A : World) : KT B T A T A := ⟨KeepsFrom.refl _ _, fun _ _ _ _ => rfl, fun _ _ h => h⟩
theorem KT.trans {B : Nat} {T T' T'' : Nat → Prop} {X Y Z : World} (h : KT B T X T' Y) (k : KT B T' Y T'' Z) : KT B T X T'' Z :=
  ⟨h.keep.trans k.keep, fun b hB hb hT => (k.same b hB (Nat.lt_of_lt_of_le hb h.keep.size) fun e => hT (h.old b hb e)).trans (h.same b hB hb hT), fun b hb e => h.old b hb (k.old b (Nat.lt_of_lt_of_le hb h.keep.size) e)⟩
theorem KT.mono {B B' : Nat} {T T' : Nat → Prop} {X Y : World} (h : KT B T X T' Y) (hB : B ≤ B') : KT B' T X T' Y :=
  ⟨⟨h.keep.size, fun k o hk => h.keep.same k o (Nat.le_trans hB hk)⟩, fun b hb => h.same b (Nat.le_trans hB hb), h.old⟩
theorem KT.own {β : Type} {B B' : Nat} {T : Nat → Prop} {X : World} (hB : X.heap.size ≤ B') : OwnFrom B' (fun (s : (Nat → Prop) × β) W => KT B T X s.1 W) := fun _ A C row h hg hr =>
  ⟨ownFrom_keepsFrom (β := Unit) hB () A C row h.keep hg hr, fun b h1 h2 h3 => (hg.block b (Nat.lt_of_lt_of_le h2 h.keep.size) fun e => by have := (hr _ e.symm).1; omega).trans (h.same b h1 h2 h3), h.old⟩
theorem KT.put {B l : Nat} {T : Nat → Prop} {W : World} {o : Obj} (hl : l < B) : KT B T W T (W.putObj l o) :=
  have e : ∀ k, l ≠ k → (W.putObj l o).heap[k]? = W.heap[k]? := fun k h => World.putObj_heap_other h.symm
  ⟨⟨by simp [World.putObj], fun k o hk h _ => (e k (by omega)).trans h⟩, fun b hb _ _ => e b (by omega), fun _ _ h => h⟩
theorem OwnFrom.up {β : Type} {B B' : Nat} {I : β → World → Prop} (h : OwnFrom B I) (hB : B ≤ B') : OwnFrom B' I := fun s A C row hi hg hr => h s A C row hi hg fun r e => ⟨Nat.le_trans hB (hr r e).1, (hr r e).2⟩

section
variable {α : Type} {P : Program} {n : Nat}

/-- The iterator's contract: it hands over xs, one by one, as long as it is asked; who asks has blocks T of his own, which the iterator lets alone; the iterator's own the other lets alone. -/
def SeqT (n : Nat) (P : Program) (g : Nat) (lb : Array Value) (encs : α → Array Value) (G : Nat → Prop) (xs : List α) (w : World) : Prop :=
  ∀ (l : Nat) (J : Nat → (Nat → Prop) → World → Prop) (Jx : Nat → World → Prop) (W : World), Below w.heap.size w W → (∀ T, OwnFrom W.heap.size (fun k => J k T)) → OwnFrom W.heap.size Jx → (∀ k T A, J k T A → ∀ b, T b → b < A.heap.size) →
    (∀ k (h : k < xs.length) T A, J k T A → YieldAt Fence.wide (n - 1) P l (encs xs[k]) A fun e C => (e = .returned (.bool true) ∧ (∃ T', J (k + 1) T' C ∧ KT W.heap.size T A T' C) ∧ KeepsB G A C) ∨ (e = .returned (.bool false) ∧ Jx k C ∧ KeepsFrom W.heap.size A C)) →
    (∃ T, J 0 T W) → CallsIn Fence.wide n P g (#[.func (.yield l) #[] #[]] ++ lb) W fun e B => (∃ v, e = .returned v) ∧ ((∃ T, J xs.length T B) ∨ ∃ k, k < xs.length ∧ Jx k B)

/-- How the body of a round may be left. -/
def postT (B : Nat) (G : Nat → Prop) (I : Nat → (Nat → Prop) → World → Prop) (Ix : Code → Nat → World → Prop) (k : Nat) (T : Nat → Prop) (W : World) : Exit → Act → World → Prop
  | .normal, _, W' => (∃ T', I (k + 1) T' W' ∧ KT B T W T' W') ∧ KeepsB G W W'
  | .ret, _, W' => KeepsFrom B W W' ∧ Ix .ret k W'
  | .exit id, _, W' => KeepsFrom B W W' ∧ Ix (.exit id) k W'
  | .goto t, _, W' => KeepsFrom B W W' ∧ Ix (.goto t) k W'
  | .panic _, _, _ => False
  | .outgrown, _, _ => False

theorem range_lawT {g : Operand} {ps : Array Tmp} {assign body : Code} {Q : Exit → Act → World → Prop} {a : Act} {w : World} (h1 : 1 ≤ n) {gf : Nat} {lb : Array Value} (hg : a.eval g = .func (.func gf) #[] lb)
    (eg : ∀ args w, (callFunc gf args).run P w = .ok (.enter gf args) w) {encs : α → Array Value} {G : Nat → Prop} {xs : List α} (hseq : SeqT (n - 1) P gf lb encs G xs w) (hG : ∀ b, G b → b < w.heap.size)
    (hps : ∀ x, (encs x).size = ps.size)
    (I : Nat → (Nat → Prop) → World → Prop) (Ix : Code → Nat → World → Prop) (hI : ∀ T, OwnFrom w.heap.size (fun k => I k T)) (hIT : ∀ k T W, I k T W → ∀ b, T b → b < W.heap.size) (hIx : ∀ c, OwnFrom w.heap.size (Ix c))
    (h0 : ∃ T, I 0 T w) (a₁ : α → Act)
    (hassign : ∀ (l : Nat) (x : α) (W : World) (K : Act → World → Prop), K (a₁ x) W →
      assign.wpIn (Fence.wide.inRound l) (n - 1 - 1) P (Exit.then K (fun _ _ _ => False)) { tmps := (ps.zip (encs x)).foldl (fun t (p, v) => t.setIfInBounds p v) a.tmps, defers := [] } W)
    (hbody : ∀ (l k : Nat) (h : k < xs.length) (T : Nat → Prop) (W : World), I k T W → body.wpIn (Fence.wide.inRound l) (n - 1 - 1) P (postT w.heap.size G I Ix k T W) (a₁ xs[k]) W)
    (hdone : ∀ (D : Nat) (T : Nat → Prop) (W : World), w.heap.size ≤ D → I xs.length T W → W.heap[D]? = some (.deferred (some [])) → Q .normal { a with defers := { target := .collected D, args := #[] } :: a.defers } W)
    (hstop : ∀ (D : Nat) (c : Code) (k : Nat) (W : World), w.heap.size ≤ D → k < xs.length → Ix c k W → W.heap[D]? = some (.deferred (some [])) → c.wpIn Fence.wide n P Q { a with defers := { target := .collected D, args := #[] } :: a.defers } W) :
    (Code.rangeFunc g ps assign body).wpIn Fence.wide n P Q a w := by
  refine wpIn_rangeFunc fun fn _ => ?_
  generalize hD : w.heap.size = D at *
  let r : Loop := { state := .ready, pending := none, fn, tmps := a.tmps, params := ps, assign, body, defers := D }
  let w1 : World := (w.alloc (.deferred (some []))).alloc (.loop r)
  have bk1 : Book D r w1 := by
    refine ⟨?_, ?_⟩
    · have := World.alloc_heap_new (w.alloc (.deferred (some []))) (.loop r)
      rwa [World.size_alloc, hD] at this
    · have := World.alloc_heap_new w (.deferred (some []))
      rw [hD] at this
      exact (Below.heap_alloc _ _ _ (by simp; omega)).trans this
  have hs1 : w1.heap.size = D + 2 := by simp [w1, hD]
  obtain ⟨T0, h0⟩ := h0
  have i1 : I 0 T0 w1 := (hI T0).alloc _ ((hI T0).alloc _ h0)
  have b1 : Below w.heap.size w w1 := ((Below.refl _ w).alloc (Nat.le_refl _) _).alloc (by simp) _
  refine ⟨D + 1, [{ target := .collected D, args := #[] }], w1, { target := .fn (.func gf) lb, args := #[.func (.yield (D + 1)) #[] #[]] }, w1, gf, #[.func (.yield (D + 1)) #[] #[]] ++ lb, w1, ?_, ?_, fun _ _ => trivial, ?_, fun _ => h1, ?_⟩
  · rw [← hD]
    have := run_enterLoop_outer (P := P) (w := w) fn a.tmps ps assign body
    simp only [w1, r, ← hD]
    exact this
  · simp only [resolve, hg]
    simp [go_sem]
  · simp [invoke, go_sem, eg]
  · refine (hseq (D + 1) (fun k T W => I k T W ∧ Book D r W) (fun k W => ∃ c, Ix c k W ∧ Book D { r with state := .done, pending := some c } W) w1 b1
      (fun T s X Y row h hg hr => ⟨hI T s X Y row h.1 hg (fun q e => ⟨by have := (hr q e).1; omega, (hr q e).2⟩), book_own (β := Unit) () X Y row h.2 hg (fun q e => ⟨by have := (hr q e).1; omega, (hr q e).2⟩)⟩)
      (fun s X Y row h hg hr => let ⟨c, h1, h2⟩ := h; ⟨c, hIx c s X Y row h1 hg (fun q e => ⟨by have := (hr q e).1; omega, (hr q e).2⟩), book_own (β := Unit) () X Y row h2 hg (fun q e => ⟨by have := (hr q e).1; omega, (hr q e).2⟩)⟩)
      (fun k T A h => hIT k T A h.1) ?_ ⟨T0, i1, bk1⟩).mono ?_
    · rintro k hk T W ⟨hi, hb⟩
      refine ⟨fn, _, assign, body, run_yield hb.1 (hps xs[k]), roundIn_of_wpIn trivial (hassign _ xs[k] W _ ⟨_, run_beginRound hb.1 rfl, ?_⟩)⟩
      have hb2 := hb.put { r with state := .busy }
      have k2 : KT w1.heap.size T W T (W.putObj (D + 1) (.loop { r with state := .busy })) := KT.put (by omega)
      have g2 : KeepsB G W (W.putObj (D + 1) (.loop { r with state := .busy })) := keepsB_b hG _ _ _ _ (by omega) hb.1 rfl rfl
      refine wpIn_mono (hbody _ k hk T _ ((hI T).putObj _ hi (by omega) hb.1 rfl)) fun e a3 W3 hp => ?_
      have left : ∀ c, KeepsFrom D (W.putObj (D + 1) (.loop { r with state := .busy })) W3 → Ix c k W3 → ∃ v W4, (Instr.endRound (D + 1) (some c)).run P W3 = .ok v W4 ∧ ((Ending.returned v = .returned (.bool true) ∧ (∃ T', (I (k + 1) T' W4 ∧ Book D r W4) ∧ KT w1.heap.size T W T' W4) ∧ KeepsB G W W4) ∨ (Ending.returned v = .returned (.bool false) ∧ (∃ c, Ix c k W4 ∧ Book D { r with state := .done, pending := some c } W4) ∧ KeepsFrom w1.heap.size W W4)) := fun c hk' hi3 => by
        obtain ⟨hr, hl, hb4⟩ := round_end (P := P) hb2 (some c) hk'
        exact ⟨_, _, hr, .inr ⟨rfl, ⟨c, (hIx c).putObj _ hi3 (by omega) hl rfl, hb4⟩, (k2.keep.trans ⟨hk'.size, fun k o h => hk'.same k o (by omega)⟩).trans (KT.put (T := T) (by omega)).keep⟩⟩
      cases e with
      | normal =>
        obtain ⟨⟨T', hi3, hkt⟩, hkg⟩ := hp
        obtain ⟨hr, hl, hb4⟩ := round_end (P := P) hb2 none hkt.keep
        exact ⟨_, _, hr, .inl ⟨rfl, ⟨T', ⟨(hI T').putObj _ hi3 (by omega) hl rfl, hb4⟩, (k2.trans (hkt.mono (by omega))).trans (KT.put (by omega))⟩, keepsB_t (keepsB_t g2 hkg) (keepsB_b hG _ _ _ _ (by omega) hl rfl rfl)⟩⟩
      | ret => exact left _ hp.1 hp.2
      | exit id => exact left _ hp.1 hp.2
      | goto t => exact left _ hp.1 hp.2
      | panic _ => exact hp.elim
      | outgrown => exact hp.elim
    · rintro e W2 ⟨⟨v, rfl⟩, (⟨T, hi, hb⟩ | ⟨k, hk, c, hi, hb⟩)⟩
      · exact ⟨none, _, run_endLoop hb.1 (by simp [r]), hdone _ T _ (Nat.le_refl _) ((hI T).putObj _ hi (by omega) hb.1 rfl) (hb.put _).2⟩
      · exact ⟨some c, _, run_endLoop hb.1 (by simp), hstop _ c k _ (Nat.le_refl _) hk ((hIx c).putObj _ hi (by omega) hb.1 rfl) (hb.put _).2⟩
end

end Go.Proofs.YtndhkbmgpjjepaaDoor

/- stripe's Positions: what it answers. Own work; no statement. -/
set_option linter.unusedSimpArgs false
set_option linter.unusedVariables false
namespace Go.Proofs.YtndhkbmgpjjepaaDoor
open Go.RowKit Go.Shelf

attribute [local go_sem] Oper.semAt_some

/-- The map that Positions goes over. -/
def thenM (m : MapD) : MapD := if okMap m then m else []

/-- What Positions' sequence goes by: boxes b to b + 3, and the row. -/
def onPos (b : Nat) (v : Value) (c : Nat) : Prop := (b ≤ c ∧ c < b + 4) ∨ v.ownBlock = some c
structure IsPos (w : World) (b : Nat) (v : Value) (m : MapD) (k a e : Int) : Prop where
  bk : Boxed w b 3 (.int .i64 k)
  ba : Boxed w (b + 1) 3 (.int .i64 a)
  be : Boxed w (b + 2) 3 (.int .i64 e)
  bm : Boxed w (b + 3) 23 v
  row : OwnsM w 0 v m
theorem IsPos.lt {w : World} {b : Nat} {v : Value} {m : MapD} {k a e : Int} (h : IsPos w b v m k a e) {c : Nat} (hc : onPos b v c) : c < w.heap.size := by
  rcases hc with hc | hc
  · have := h.bm.lt
    omega
  · exact (h.row.lt c hc).2
theorem IsPos.keep {w w' : World} {b : Nat} {v : Value} {m : MapD} {k a e : Int} (h : IsPos w b v m k a e) (hk : ∀ c, onPos b v c → w'.heap[c]? = w.heap[c]?) : IsPos w' b v m k a e :=
  ⟨boxed_of_heap h.bk (hk _ (.inl (by omega))), boxed_of_heap h.ba (hk _ (.inl (by omega))), boxed_of_heap h.be (hk _ (.inl (by omega))), boxed_of_heap h.bm (hk _ (.inl (by omega))), ownsRow_of_heap h.row fun k e => hk k (.inr e)⟩
theorem IsPos.below {w w' : World} {b : Nat} {v : Value} {m : MapD} {k a e : Int} (h : IsPos w b v m k a e) (hb : Below w.heap.size w w') : IsPos w' b v m k a e := h.keep fun _ hc => hb.block _ (h.lt hc)

set_option maxHeartbeats 2000000 in
theorem positions_calls (v : Value) (m : MapD) (k a e : Int) (w : World) (hv : IsMap w v m) (hl : m.length ≤ 1099511627776) :
    Calls Tryd.prog 22 #[v, .int .i64 k, .int .i64 a, .int .i64 e] w fun en w' =>
      en = .returned (.func (.func 32) #[] #[.pointer (some ⟨w.heap.size + 3, 0, none⟩), .pointer (some ⟨w.heap.size + 2, 0, none⟩), .pointer (some ⟨w.heap.size, 0, none⟩), .pointer (some ⟨w.heap.size + 1, 0, none⟩)]) ∧
      (∃ vr, IsPos w' w.heap.size vr (thenM m) k a e) ∧ Below w.heap.size w w' := by
  have hmf : ∀ (fn : Fn) (first cap : Array Value) (w : World), (Instr.makeFunc fn first cap).run Tryd.prog w = .ok (.func fn first cap) w := fun _ _ _ _ => rfl
  obtain ⟨W0, hW0⟩ : ∃ W0, (((w.alloc (.cells #[.int .i64 k] 3)).alloc (.cells #[.int .i64 a] 3)).alloc (.cells #[.int .i64 e] 3)).alloc (.cells #[.slice none 0 0] 23) = W0 := ⟨_, rfl⟩
  have s0 : W0.heap.size = w.heap.size + 4 := by rw [← hW0]; simp
  have x0 : Boxed W0 w.heap.size 3 (.int .i64 k) := by rw [← hW0]; exact ((((boxed_new' (by simp)).alloc _).alloc _).alloc _)
  have x1 : Boxed W0 (w.heap.size + 1) 3 (.int .i64 a) := by rw [← hW0]; exact (((boxed_new' (by simp)).alloc _).alloc _)
  have x2 : Boxed W0 (w.heap.size + 2) 3 (.int .i64 e) := by rw [← hW0]; exact ((boxed_new' (by simp)).alloc _)
  have x3 : Boxed W0 (w.heap.size + 3) 23 (.slice none 0 0) := by rw [← hW0]; exact (boxed_new' (by simp))
  have hB0 : Below w.heap.size w W0 := by
    rw [← hW0]
    exact ((((Below.refl _ w).alloc (Nat.le_refl _) _).alloc (by simp) _).alloc (by simp; omega) _).alloc (by simp; omega) _
  have C := hide (mapCheck_calls v m W0 (hv.below hB0) hl)
  have Hv := hide hv
  obtain ⟨va, cap, rfl⟩ := hv.slice
  have HW := hide hW0
  clear hW0 hv
  by_cases hok : okMap m = true
  · have hc0 : checkM m = 0 := by rw [checkM, if_pos hok]
    have ht : thenM m = m := by rw [thenM, if_pos hok]
    rw [hc0] at C
    rw [ht]
    go_enter Tryd.func22, Tryd.ntmps22
    go_wp2_with fail
    rw [HW.out]
    refine C.out.mono ?_
    rintro en w1 ⟨rfl, hB1⟩
    have D := hide (mapClone_calls _ m w1 ((Hv.out.below hB0).below hB1) (okMap_pos hok) hl)
    have y3 := boxed_of_heap x3 (hB1.block _ x3.lt)
    clear C HW
    go_wp2_with (go_at_call 31; refine D.out.mono ?_; rintro en w2 ⟨v2, rfl, hown, hB2⟩; obtain ⟨a2, cap2, rfl⟩ := ownsRow_slice hown; have z3 := boxed_of_heap y3 (hB2.block _ y3.lt); have c3 := z3.cell; have f3 := z3.frozen)
    go_ret
    have hs1 := hB1.size
    have hs2 := hB2.size
    have hk : ∀ c, c < w.heap.size + 4 → c ≠ w.heap.size + 3 → (w2.setCell ⟨w.heap.size + 3, 0, none⟩ (.slice a2 m.length cap2)).heap[c]? = W0.heap[c]? := fun c h1 h2 => (Below.heap_setCell _ _ _ _ h2).trans ((hB2.block c (by omega)).trans (hB1.block c (by omega)))
    refine ⟨rfl, ⟨_, boxed_of_heap x0 (hk _ (by omega) (by omega)), boxed_of_heap x1 (hk _ (by omega) (by omega)), boxed_of_heap x2 (hk _ (by omega) (by omega)), z3.set _, ?_⟩, (((hB0.trans (hB1.mono hB0.size)).trans (hB2.mono (hB0.trans (hB1.mono hB0.size)).size))).setCell (p := ⟨w.heap.size + 3, 0, none⟩) (by simp) _⟩
    exact ownsRow_low (ownsRow_of_heap hown fun k e => Below.heap_setCell _ _ _ _ fun e' => by have := (hown.lt k e).1; have e2 : k = w.heap.size + 3 := e'; omega) (Nat.zero_le _)
  · have hc0 : checkM m = 1 := by rw [checkM, if_neg hok]
    have ht : thenM m = [] := by rw [thenM, if_neg hok]
    rw [hc0] at C
    rw [ht]
    go_enter Tryd.func22, Tryd.ntmps22
    go_wp2_with fail
    rw [HW.out]
    refine C.out.mono ?_
    rintro en w1 ⟨rfl, hB1⟩
    clear C HW
    go_wp2
    go_ret
    have hk : ∀ c, c < w.heap.size + 4 → w1.heap[c]? = W0.heap[c]? := fun c h1 => hB1.block c (by omega)
    exact ⟨rfl, ⟨_, boxed_of_heap x0 (hk _ (by omega)), boxed_of_heap x1 (hk _ (by omega)), boxed_of_heap x2 (hk _ (by omega)), boxed_of_heap x3 (hk _ (by omega)), World.ownsRow_nil _ _ _ _⟩, hB0.trans (hB1.mono hB0.size)⟩

end Go.Proofs.YtndhkbmgpjjepaaDoor
