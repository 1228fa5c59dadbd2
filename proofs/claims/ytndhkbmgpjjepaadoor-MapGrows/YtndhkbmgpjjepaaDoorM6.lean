/- stripe's parseSpans, Parse. Own work; no statement. -/
import Derived.Test.YtndhkbmgpjjepaaDoorM5
set_option linter.unusedSimpArgs false
set_option linter.unusedVariables false
namespace Go.Proofs.YtndhkbmgpjjepaaDoor
open Go.RowKit Go.Shelf

attribute [local go_sem] Oper.semAt_some

theorem keeps_of_below {W W' : World} (h : Below W.heap.size W W') : KeepsOthers W W' := ⟨h.size, fun _ _ hk _ => (h.block _ (ltAt hk)).trans hk⟩
theorem app_lowS {W w1 : World} {N n₁ B : Nat} {t e : TypeId} {s : Nat} {v v' : Value} {k m : Nat} {xs ys : List Value} {tmp : Obj} (hv : Boxed W B t v) (hrow : W.ownsRow n₁ e s v k xs) (hn : n₁ ≤ W.heap.size) (hB : B < n₁) (hN : N ≤ B)
    (hown : w1.ownsRow n₁ e s v' m ys) (hgrow : (W.alloc tmp).grownBy w1 v.ownBlock) :
    Boxed w1 B t v ∧ Boxed (w1.setCell ⟨B, 0, none⟩ v') B t v' ∧ (w1.setCell ⟨B, 0, none⟩ v').ownsRow n₁ e s v' m ys ∧ KeepsOthers W (w1.setCell ⟨B, 0, none⟩ v') ∧ Below N W (w1.setCell ⟨B, 0, none⟩ v') ∧
      Hid (∀ b, b < n₁ → b ≠ B → (w1.setCell ⟨B, 0, none⟩ v').heap[b]? = W.heap[b]?) := by
  have hne : ∀ b, b < n₁ → some b ≠ v.ownBlock := fun b hb e' => by have := (hrow.lt b e'.symm).1; omega
  have hv1 : Boxed w1 B t v := (hv.alloc tmp).kept hgrow (hne B hB)
  have hoth : ∀ b, b < n₁ → b ≠ B → (w1.setCell ⟨B, 0, none⟩ v').heap[b]? = W.heap[b]? := fun b hb hbB => app_other hgrow b (by omega) (hne b hb) hbB
  refine ⟨hv1, hv1.set v', ownsRow_of_heap hown (fun k hk => Below.heap_setCell _ _ _ _ (fun e' => by have := (hown.lt k hk).1; have e2 : k = B := e'; omega)), ?_, ?_, hoth⟩
  · refine ((KeepsOthers.alloc W tmp).trans (KeepsOthers.of_grownBy hgrow fun j o ej hj => ?_)).trans (KeepsOthers.setCell _ _ _)
    rcases (hrow.alloc tmp).2 with ⟨rfl, _⟩ | ⟨g, cap, cur, rfl, _, hgb, _⟩
    · simp [Value.ownBlock] at ej
    · obtain rfl : g = j := by simpa [Value.ownBlock] using ej
      rw [hgb] at hj; cases hj; rfl
  · exact (((Below.refl N W).alloc (by omega) tmp).grown hgrow (by simp; omega) (fun j ej => by have := (hrow.lt j ej).1; omega)).setCell (p := ⟨B, 0, none⟩) hN v'

theorem two_new {W : World} {x y : Value} {e : TypeId} {g : Nat} (h : g = W.heap.size) : ∀ j u, [x, y][j]? = some u → (W.alloc (.cells #[x, y] e)).cell? ((⟨g, 0, none⟩ : Addr).add j) = some u := by
  subst h
  intro j u hj
  rw [Addr.add_lit, Nat.zero_add, cellsAt (World.alloc_heap_new W _)]
  simpa using hj
theorem two_one {x y : Int} : ∀ u ∈ ([.int .i64 x, .int .i64 y] : List Value), u.oneCell' = true := by
  intro u hu
  simp only [List.mem_cons, List.not_mem_nil, or_false] at hu
  rcases hu with rfl | rfl <;> rfl

/-- Words as spans. -/
def spansOf (ws : List (List UInt8)) : MapD := ws.map fun x => (spanL x).1
def spansB (ws : List (List UInt8)) : Bool := ws.all fun x => (spanL x).2
/-- Words as a map, if each is a span. -/
def parseW (ws : List (List UInt8)) : MapD × Bool := if spansB ws then (spansOf ws, true) else ([], false)

theorem splitL_length : ∀ l : List UInt8, (splitL l).length ≤ l.length + 1
  | [] => by simp [splitL]
  | x :: r => by
    have := splitL_length r
    unfold splitL
    split
    · simp; omega
    · cases h : splitL r with
      | nil => simp
      | cons y ys =>
        rw [h] at this
        simp at this ⊢
        omega

set_option maxRecDepth 100000 in
set_option maxHeartbeats 4000000 in
theorem parseSpansO_calls (s : List UInt8) (w : World) (hs : s.length ≤ 1073741824) (hne : ¬ s = []) :
    Calls Tryd.prog 27 #[.string ⟨s.toArray⟩] w fun e w' => ∃ v, e = .returned (.tuple #[v, .bool (parseW (splitL s)).2]) ∧ OwnsM w' w.heap.size v (parseW (splitL s)).1 ∧ Below w.heap.size w w' := by
  obtain ⟨i0, hi, hz0, hz1, hz2⟩ := info_parts Tryd.info48
  have hem : s.isEmpty = false := by cases s with
    | nil => exact absurd rfl hne
    | cons x r => rfl
  refine (callsIn_wide (n := 5)).1 ?_
  refine callsIn_of_wp_marks Tryd.func27 rfl trivial ?_ rfl
  simp only [Tryd.ntmps27, List.size_toArray, List.length_cons, List.length_nil, Nat.reduceAdd, Nat.reduceSub, Array.replicate_succ, Array.replicate_zero, List.push_toArray, List.append_toArray, List.nil_append, List.cons_append]
  gi_wp2_with (refine ⟨trivial, ?_⟩; gi_at_call 37; refine ((callsIn_wide (n := _)).2 (splitSeq_calls _ _)).mono ?_; rintro e w' ⟨rfl, rfl⟩)
  simp only [Nat.add_assoc, Nat.reduceAdd]
  obtain ⟨W8, hW8⟩ : ∃ W8, (((((w.alloc (.cells #[.slice none 0 0] 23)).alloc (.cells #[.bool false] 4)).alloc (.cells #[.slice none 0 0] 23)).alloc (.cells #[.string ⟨s.toArray⟩] 9)).alloc (.cells #[.string ⟨#[32]⟩] 9)).alloc (.cells #[.int .i64 0] 3) = W8 := ⟨_, rfl⟩
  have s8 : W8.heap.size = w.heap.size + 6 := by rw [← hW8]; simp
  have b0 : Boxed W8 w.heap.size 23 (.slice none 0 0) := by rw [← hW8]; exact ((((((boxed_new' (by simp)).alloc _).alloc _).alloc _).alloc _).alloc _)
  have b1 : Boxed W8 (w.heap.size + 1) 4 (.bool false) := by rw [← hW8]; exact (((((boxed_new' (by simp)).alloc _).alloc _).alloc _).alloc _)
  have b2 : Boxed W8 (w.heap.size + 2) 23 (.slice none 0 0) := by rw [← hW8]; exact ((((boxed_new' (by simp)).alloc _).alloc _).alloc _)
  have b5 : IsSplit W8 (w.heap.size + 3) s := by rw [← hW8]; exact ⟨(((boxed_new' (by simp)).alloc _).alloc _), ((boxed_new' (by simp)).alloc _), (boxed_new' (by simp))⟩
  have hB8 : Below w.heap.size w W8 := by
    rw [← hW8]
    exact ((((((Below.refl _ w).alloc (Nat.le_refl _) _).alloc (by simp) _).alloc (by simp; omega) _).alloc (by simp; omega) _).alloc (by simp; omega) _).alloc (by simp; omega) _
  rw [hW8]
  clear hW8
  refine range_law (by decide) (gf := 49) (lb := #[.pointer (some ⟨w.heap.size + 4, 0, none⟩), .pointer (some ⟨w.heap.size + 3, 0, none⟩), .pointer (some ⟨w.heap.size + 5, 0, none⟩)]) rfl (enters_of Tryd.func49 (by kernel_rfl) rfl)
    (split_stops 4 (by decide) (w.heap.size + 3) s (by omega) W8 b5) keepsThree_t (keepsThree_b (by omega)) ?hE (fun _ => rfl)
    (fun pre W => ((∃ v, Boxed W (w.heap.size + 2) 23 v ∧ W.ownsRow (w.heap.size + 6) 48 2 v (spansOf (pre.map (·.1))).length (cellsM (spansOf (pre.map (·.1))))) ∧
      Boxed W w.heap.size 23 (.slice none 0 0) ∧ Boxed W (w.heap.size + 1) 4 (.bool false) ∧ (spansB (pre.map (·.1)) = true) ∧ w.heap.size + 6 ≤ W.heap.size) ∧ Below w.heap.size w W)
    (fun c pre W => (c = .ret ∧ Boxed W w.heap.size 23 (.slice none 0 0) ∧ Boxed W (w.heap.size + 1) 4 (.bool false) ∧ (spansB (pre.map (·.1)) = false)) ∧ Below w.heap.size w W)
    ?hI ?hIx ?hIE ?hIxE ?h0
    (fun x => { tmps := #[.string ⟨s.toArray⟩, undef, .pointer (some ⟨w.heap.size, 0, none⟩), .pointer (some ⟨w.heap.size + 1, 0, none⟩), .pointer (some ⟨w.heap.size + 2, 0, none⟩), .string ⟨x.1.toArray⟩, undef, undef, .string ⟨s.toArray⟩, .bool false, .string ⟨s.toArray⟩, .func (.func 49) #[] #[.pointer (some ⟨w.heap.size + 4, 0, none⟩), .pointer (some ⟨w.heap.size + 3, 0, none⟩), .pointer (some ⟨w.heap.size + 5, 0, none⟩)], .string ⟨x.1.toArray⟩, undef, undef, undef, undef, undef, undef, undef, undef, undef, undef, undef, undef], defers := [] }) ?assign ?body ?done ?stop
  case hE =>
    rintro A B ⟨v, rfl⟩
    exact (KeepsOthers.setCell _ _ _).from _
  case hI =>
    refine OwnFrom.and (Own.from (fun pre X Y row hh hg hr => ?_) _) (ownFrom_below (Nat.le_refl _) (by omega))
    obtain ⟨⟨v, h1, h2⟩, h3, h4, h5, hsz⟩ := hh
    exact ⟨⟨v, boxed_own' hg hr h1, ownsRow_own' hg hr h2⟩, boxed_own' hg hr h3, boxed_own' hg hr h4, h5, Nat.le_trans hsz hg.size⟩
  case hIx =>
    intro c
    refine OwnFrom.and (Own.from (fun pre X Y row hh hg hr => ?_) _) (ownFrom_below (Nat.le_refl _) (by omega))
    exact ⟨hh.1, boxed_own' hg hr hh.2.1, boxed_own' hg hr hh.2.2.1, hh.2.2.2⟩
  case hIE =>
    rintro pre A B ⟨⟨⟨v, h1, h2⟩, h3, h4, h5, hsz⟩, hB⟩ ⟨u, rfl⟩
    have hk : ∀ k, k ≠ w.heap.size + 3 → (A.setCell ⟨w.heap.size + 3, 0, none⟩ u).heap[k]? = A.heap[k]? := fun k h => Below.heap_setCell _ _ _ _ h
    exact ⟨⟨⟨v, boxed_of_heap h1 (hk _ (by omega)), ownsRow_of_heap h2 (fun k hk' => hk k (by have := (h2.lt k hk').1; omega))⟩, boxed_of_heap h3 (hk _ (by omega)), boxed_of_heap h4 (hk _ (by omega)), h5, by simpa using hsz⟩, hB.setCell (p := ⟨w.heap.size + 3, 0, none⟩) (by simp) _⟩
  case hIxE =>
    rintro c pre A B ⟨⟨hc, h1, h2, h3⟩, hB⟩ ⟨u, rfl⟩
    have hk : ∀ k, k ≠ w.heap.size + 3 → (A.setCell ⟨w.heap.size + 3, 0, none⟩ u).heap[k]? = A.heap[k]? := fun k h => Below.heap_setCell _ _ _ _ h
    exact ⟨⟨hc, boxed_of_heap h1 (hk _ (by omega)), boxed_of_heap h2 (hk _ (by omega)), h3⟩, hB.setCell (p := ⟨w.heap.size + 3, 0, none⟩) (by simp) _⟩
  case h0 => exact ⟨⟨⟨_, b2, World.ownsRow_nil _ _ _ _⟩, b0, b1, rfl, by omega⟩, hB8⟩
  case assign =>
    intro l x W K hK
    gi_wp2
    exact hK
  case body =>
    rintro lp pre ⟨x, hx⟩ W ⟨⟨⟨v, h1, h2⟩, h5, h6, h7, hsz⟩, hB⟩ hlt
    clear b0 b1 b2 b5 hB8
    have hplen : (spansOf (pre.map (·.1))).length ≤ 1073741825 := by
      have := splitL_length s
      simp only [spansOf, List.length_map]
      omega
    have hsnoc : spansOf ((pre ++ [(⟨x, hx⟩ : Word)]).map (·.1)) = spansOf (pre.map (·.1)) ++ [(spanL x).1] := by simp [spansOf]
    have hall : spansB ((pre ++ [(⟨x, hx⟩ : Word)]).map (·.1)) = (spanL x).2 := by
      rw [spansB, List.map_append, List.all_append]
      rw [spansB] at h7
      rw [h7]
      simp
    have C := hide fun w => parseSpan_calls x w hx
    generalize spanL x = sp at *
    obtain ⟨⟨p, q⟩, ok⟩ := sp
    dsimp only at *
    obtain ⟨L, hL⟩ : ∃ L, spansOf (pre.map (·.1)) = L := ⟨_, rfl⟩
    rw [hL] at h2 hsnoc hplen
    have Hsnoc := hide hsnoc
    have Hall := hide hall
    clear hL hall hsnoc h7 hlt
    have K : Hid (∀ w1, Below W.heap.size W w1 → w.heap.size + 6 ≤ w1.heap.size ∧ ∀ X, X = w1.alloc (.cells #[.int .i64 p, .int .i64 q] 48) → Boxed X w.heap.size 23 (.slice none 0 0) ∧ Boxed X (w.heap.size + 1) 4 (.bool false) ∧ Boxed X (w.heap.size + 2) 23 v ∧
        X.cell? ⟨w.heap.size, 0, none⟩ = some (.slice none 0 0) ∧ X.frozen? ⟨w.heap.size, 0, none⟩ = false ∧ X.cell? ⟨w.heap.size + 1, 0, none⟩ = some (.bool false) ∧ X.frozen? ⟨w.heap.size + 1, 0, none⟩ = false ∧ X.cell? ⟨w.heap.size + 2, 0, none⟩ = some v ∧ X.frozen? ⟨w.heap.size + 2, 0, none⟩ = false) := by
      intro w1 hB1
      refine ⟨Nat.le_trans hsz hB1.size, ?_⟩
      rintro X rfl
      have x5 := (boxed_of_heap h5 (hB1.block _ h5.lt)).alloc (.cells #[.int .i64 p, .int .i64 q] 48)
      have x6 := (boxed_of_heap h6 (hB1.block _ h6.lt)).alloc (.cells #[.int .i64 p, .int .i64 q] 48)
      have x1 := (boxed_of_heap h1 (hB1.block _ h1.lt)).alloc (.cells #[.int .i64 p, .int .i64 q] 48)
      exact ⟨x5, x6, x1, x5.cell, x5.frozen, x6.cell, x6.frozen, x1.cell, x1.frozen⟩
    have hbs := hB.size
    cases ok with
    | false =>
      gi_wp2_with (refine ⟨trivial, ?_⟩; gi_at_call 38; refine (CallsIn.inRound lp ((callsIn_wide (n := _)).2 (C.out _))).mono ?_; rintro e w1 ⟨rfl, hB1⟩; obtain ⟨hs1, K1⟩ := K.out w1 hB1; obtain ⟨x5, x6, x1, c0, f0, c1, f1, c2, f2⟩ := K1 _ rfl; clear C K1)
      exact ⟨(((keeps_of_below hB1).trans (KeepsOthers.alloc _ _)).trans ((KeepsOthers.setCell _ _ _).trans (KeepsOthers.setCell _ _ _))).from _, ⟨rfl, boxed_of_heap (x5.set _) (one_set _ (by omega)), (boxed_of_heap x6 (one_set _ (by omega))).set _, Hall.out⟩, (((hB.trans (hB1.mono hbs)).alloc (by omega) _).setCell (p := ⟨w.heap.size, 0, none⟩) (by simp) _).setCell (p := ⟨w.heap.size + 1, 0, none⟩) (by simp) _⟩
    | true =>
      obtain ⟨pa, ca, rfl⟩ := ownsRow_slice h2
      gi_wp2_with (first | (refine ⟨trivial, ?_⟩; gi_at_call 38; refine (CallsIn.inRound lp ((callsIn_wide (n := _)).2 (C.out _))).mono ?_; rintro e w1 ⟨rfl, hB1⟩; obtain ⟨hs1, K1⟩ := K.out w1 hB1; obtain ⟨x5, x6, x1, c0, f0, c1, f1, c2, f2⟩ := K1 _ rfl; clear C K1) | (gi_at_builtin; have z2 := World.ownsRow.alloc (ownsRow_of_heap h2 (fun k e => hB1.block k (h2.lt k e).2)) (.cells #[.int .i64 p, .int .i64 q] 48); refine wpListIn_append_own_at _ rfl (.tmp 20) _ 23 rfl (w.heap.size + 6) 48 i0 _ 2 16 Tryd.underlying23 hi hz0 hz1 hz2 rfl (by decide) _ _ _ rfl (World.ownsRow.alloc z2 _) ⟨_, 0, none⟩ 1 1 [.int .i64 p, .int .i64 q] rfl rfl (two_new (by simp)) two_one (by unfold maxLen; omega) (by omega) (by simp; omega) ?_; intro v1 w2 hown1 hgrow1 _ _; obtain ⟨g1, cap1, rfl⟩ := ownsRow_succ hown1; obtain ⟨bx1, t1, r1, k1, hb1, ho1⟩ := app_lowS (N := w.heap.size) x1 z2 (by simp; omega) (by omega) (by omega) hown1 hgrow1; have d1 := bx1.cell; have g1f := bx1.frozen; clear hgrow1 hown1))
      have q : ∀ b, b < w.heap.size + 6 → b ≠ w.heap.size + 2 → _ = W.heap[b]? := fun b hb h2 => (ho1.out b hb h2).trans ((Below.heap_alloc _ _ _ (by omega)).trans (hB1.block b (by omega)))
      refine ⟨(((keeps_of_below hB1).trans (KeepsOthers.alloc _ _)).trans k1).from _, ⟨q _ (by omega) (by omega), q _ (by omega) (by omega), q _ (by omega) (by omega)⟩, ⟨⟨_, t1, ?_⟩, boxed_of_heap h5 (q _ (by omega) (by omega)), boxed_of_heap h6 (q _ (by omega) (by omega)), Hall.out, ?_⟩, ((hB.trans (hB1.mono hbs)).alloc (by omega) _).trans hb1⟩
      · rw [Hsnoc.out, List.length_append, cellsM_append]
        exact r1
      · have := hb1.size
        simp at this ⊢
        omega
  case done =>
    rintro D ys W hD hys ⟨⟨⟨v, h1, h2⟩, h5, h6, h7, hsz⟩, hB⟩ hK
    clear b0 b1 b2 b5 hB8
    obtain ⟨pa, ca, rfl⟩ := ownsRow_slice h2
    rw [hys] at h1 h2 h7
    have hp : parseW (splitL s) = (spansOf (splitL s), true) := by unfold parseW; rw [if_pos h7]
    have c2 := h1.cell
    have c0 := h5.cell
    have c1 := h6.cell
    have f0 := h5.frozen
    have f1 := h6.frozen
    generalize spansOf (splitL s) = l at *
    have Hp := hide hp
    clear hp h7 hys
    gi_wp2
    obtain ⟨W3, hW3⟩ : ∃ W3, (W.setCell ⟨w.heap.size, 0, none⟩ (.slice pa l.length ca)).setCell ⟨w.heap.size + 1, 0, none⟩ (.bool true) = W3 := ⟨_, rfl⟩
    have hK3 : W3.heap[D]? = some (.deferred (some [])) := by
      rw [← hW3]
      exact (KeepsOthers.setCell _ _ _).same D _ ((KeepsOthers.setCell _ _ _).same D _ hK rfl) rfl
    have R0 : Boxed W3 w.heap.size 23 (.slice pa l.length ca) := by rw [← hW3]; exact boxed_of_heap (h5.set _) (one_set _ (by omega))
    have R1 : Boxed W3 (w.heap.size + 1) 4 (.bool true) := by rw [← hW3]; exact (boxed_of_heap h6 (one_set _ (by omega))).set _
    have hB3 : Below w.heap.size w W3 := by rw [← hW3]; exact (hB.setCell (p := ⟨w.heap.size, 0, none⟩) (by simp) _).setCell (p := ⟨w.heap.size + 1, 0, none⟩) (by simp) _
    have hk3 : ∀ k, w.heap.size + 6 ≤ k → W3.heap[k]? = W.heap[k]? := by intro k hk; rw [← hW3]; exact two_sets k (by omega) (by omega)
    rw [hW3]
    have hg := grownBy_putObj' W3 D (.deferred none)
    have hr : ∀ r, some D = some r → ∃ o : Obj, W3.heap[r]? = some o ∧ o.isCells = false := fun r e => by cases e; exact ⟨_, hK3, rfl⟩
    have Q0 := (boxed_own' hg hr R0).cell
    have Q1 := (boxed_own' hg hr R1).cell
    refine ⟨by simp, .inl ⟨_, _, rfl, run_takeDeferred hK3, ?_⟩⟩
    refine ⟨.tuple #[.slice pa l.length ca, .bool true], by simp [results, Tryd.f27, go_sem, Q0, Q1], .slice pa l.length ca, by rw [Hp.out], ?_, hB3.trans (belowK_b (w := w) (Nat.le_refl _) W3 D _ _ (by omega) hK3 rfl rfl)⟩
    rw [Hp.out]
    exact ownsRow_low (ownsRow_own' hg hr (ownsRow_of_heap h2 (fun k hk => hk3 k (h2.lt k hk).1))) (by omega)
  case stop =>
    rintro D c pre W hD hpre ⟨⟨rfl, h5, h6, h7⟩, hB⟩ hK
    clear b0 b1 b2 b5 hB8
    have hpn : parseW (splitL s) = ([], false) := by
      unfold parseW
      rw [if_neg]
      intro hall
      rw [spansB, List.all_eq_true] at hall
      rw [spansB, List.all_eq_false] at h7
      obtain ⟨x, hx, hx'⟩ := h7
      exact hx' (hall x (hpre.subset hx))
    have Hp := hide hpn
    clear hpn h7
    gi_wp2
    have hg := grownBy_putObj' W D (.deferred none)
    have hr : ∀ r, some D = some r → ∃ o : Obj, W.heap[r]? = some o ∧ o.isCells = false := fun r e => by cases e; exact ⟨_, hK, rfl⟩
    have Q0 := (boxed_own' hg hr h5).cell
    have Q1 := (boxed_own' hg hr h6).cell
    refine ⟨by simp, .inl ⟨_, _, rfl, run_takeDeferred hK, ?_⟩⟩
    exact ⟨.tuple #[.slice none 0 0, .bool false], by simp [results, Tryd.f27, go_sem, Q0, Q1], .slice none 0 0, by rw [Hp.out], by rw [Hp.out]; exact World.ownsRow_nil _ _ _ _, hB.trans (belowK_b (w := w) (Nat.le_refl _) W D _ _ (by omega) hK rfl rfl)⟩

/-- A text as spans, and whether it is a text of such. -/
def parseT (s : List UInt8) : MapD × Bool := if s = [] then ([], true) else parseW (splitL s)
/-- A text as a map, and the error's number. -/
def parseM (s : List UInt8) : MapD × Int := if (parseT s).2 = true then (if okMap (parseT s).1 = true then ((parseT s).1, 0) else ([], 1)) else ([], 2)

set_option maxHeartbeats 1000000 in
theorem parseSpans_calls (s : List UInt8) (w : World) (hs : s.length ≤ 1073741824) :
    Calls Tryd.prog 27 #[.string ⟨s.toArray⟩] w fun e w' => ∃ v, e = .returned (.tuple #[v, .bool (parseT s).2]) ∧ OwnsM w' w.heap.size v (parseT s).1 ∧ Below w.heap.size w w' := by
  by_cases hne : s = []
  · subst hne
    go_enter Tryd.func27, Tryd.ntmps27
    go_wp2
    have b0 : Boxed ((w.alloc (.cells #[.slice none 0 0] 23)).alloc (.cells #[.bool true] 4)) w.heap.size 23 (.slice none 0 0) := (boxed_new' rfl).alloc _
    have b1 : Boxed ((w.alloc (.cells #[.slice none 0 0] 23)).alloc (.cells #[.bool true] 4)) (w.heap.size + 1) 4 (.bool true) := boxed_new' (by simp)
    exact bodyPost_ret (v := .tuple #[.slice none 0 0, .bool true]) (by simp [results, Tryd.f27, go_sem, b0.cell, b1.cell]) rfl ⟨_, rfl, World.ownsRow_nil _ _ _ _, ((Below.refl _ w).alloc (Nat.le_refl _) _).alloc (by simp) _⟩
  · have e : parseT s = parseW (splitL s) := by unfold parseT; rw [if_neg hne]
    rw [e]
    exact parseSpansO_calls s w hs hne

set_option maxHeartbeats 1000000 in
theorem mapParse_calls (s : List UInt8) (w : World) (hs : s.length ≤ 1073741824) :
    Calls Tryd.prog 19 #[.string ⟨s.toArray⟩] w fun e w' => ∃ v, e = .returned (.tuple #[v, .int .i64 (parseM s).2]) ∧ OwnsM w' w.heap.size v (parseM s).1 ∧ Below w.heap.size w w' := by
  have C := hide (parseSpans_calls s w hs)
  have hlen : (parseT s).1.length ≤ 1073741825 := by
    unfold parseT parseW spansOf
    have := splitL_length s
    split
    · simp
    · split
      · simp; omega
      · simp
  obtain ⟨r, hr⟩ : ∃ r, parseM s = r := ⟨_, rfl⟩
  rw [hr]
  unfold parseM at hr
  generalize parseT s = p at *
  obtain ⟨m, ok⟩ := p
  dsimp only at *
  cases ok with
  | false =>
    rw [if_neg (by simp)] at hr
    subst hr
    go_enter Tryd.func19, Tryd.ntmps19
    go_wp2_with (go_at_call 27; refine C.out.mono ?_; rintro e w1 ⟨v, rfl, hown, hB⟩)
    go_ret2
    exact ⟨_, rfl, World.ownsRow_nil _ _ _ _, hB⟩
  | true =>
    rw [if_pos rfl] at hr
    by_cases hok : okMap m = true
    · have hc0 : checkM m = 0 := by rw [checkM, if_pos hok]
      rw [if_pos hok] at hr
      subst hr
      go_enter Tryd.func19, Tryd.ntmps19
      go_wp2_with (first | (go_at_call 27; refine C.out.mono ?_; rintro e w1 ⟨v, rfl, hown, hB⟩; have K := hide (mapCheck_calls _ m w1 (OwnsM.map hown) (by omega)); rw [hc0] at K; obtain ⟨a1, cap1, rfl⟩ := ownsRow_slice hown; clear C) | (go_at_call 14; refine K.out.mono ?_; rintro e w2 ⟨rfl, hB2⟩))
      go_ret2
      exact ⟨_, rfl, ownsRow_of_heap hown fun k e => hB2.block k (hown.lt k e).2, hB.trans (hB2.mono hB.size)⟩
    · have hc0 : checkM m = 1 := by rw [checkM, if_neg hok]
      rw [if_neg hok] at hr
      subst hr
      go_enter Tryd.func19, Tryd.ntmps19
      go_wp2_with (first | (go_at_call 27; refine C.out.mono ?_; rintro e w1 ⟨v, rfl, hown, hB⟩; have K := hide (mapCheck_calls _ m w1 (OwnsM.map hown) (by omega)); rw [hc0] at K; obtain ⟨a1, cap1, rfl⟩ := ownsRow_slice hown; clear C) | (go_at_call 14; refine K.out.mono ?_; rintro e w2 ⟨rfl, hB2⟩))
      go_ret2
      exact ⟨_, rfl, World.ownsRow_nil _ _ _ _, hB.trans (hB2.mono hB.size)⟩

end Go.Proofs.YtndhkbmgpjjepaaDoor
