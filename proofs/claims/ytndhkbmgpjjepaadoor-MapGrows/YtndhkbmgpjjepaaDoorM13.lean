/- The laws' Nums over Positions. Own work; no statement. -/
import Derived.Test.YtndhkbmgpjjepaaDoorM12
set_option linter.unusedSimpArgs false
set_option linter.unusedVariables false
namespace Go.Proofs.YtndhkbmgpjjepaaDoor
open Go.RowKit Go.Shelf

attribute [local go_sem] Oper.semAt_some

/-- Positions' answer. -/
def posV (b : Nat) : Value := .func (.func 32) #[] #[.pointer (some ⟨b + 3, 0, none⟩), .pointer (some ⟨b + 2, 0, none⟩), .pointer (some ⟨b, 0, none⟩), .pointer (some ⟨b + 1, 0, none⟩)]

set_option maxRecDepth 100000 in
set_option maxHeartbeats 4000000 in
theorem nums_calls (b : Nat) (vr : Value) (m : MapD) (k a e : Int) (most : Nat) (w : World) (hp : IsPos w b vr m k a e) (hl : m.length ≤ 1099511627776) (hm : ∀ i (h : i < m.length), 0 ≤ m[i].1 ∧ m[i].1 ≤ 9223372036854775807 ∧ 1 ≤ m[i].2 ∧ m[i].2 ≤ 8)
    (hk : -1048576 ≤ k ∧ k ≤ 1048576) (ha : 0 ≤ a ∧ a ≤ 1048576) (he : 0 ≤ e ∧ e ≤ 1048576) (hlen : (posL m k a e).length ≤ most) (hmo : most ≤ 1048576) :
    Calls Tryd.prog 21 #[posV b, .int .i64 (most : Int)] w fun en w' => ∃ v, en = .returned (.tuple #[v, .bool true]) ∧ w'.ownsRow w.heap.size 3 1 v (posL m k a e).length ((posL m k a e).map (Value.int .i64)) ∧ Below w.heap.size w w' := by
  have heq : ∀ (fn : Fn) (first cap : Array Value) (w : World), (binOp .eql 53 (.func fn first cap) .nilFunc).run Tryd.prog w = .ok (.bool false) w := fun _ _ _ _ => by kernel_rfl
  obtain ⟨i0, hi, hz0, hz1, hz2⟩ := info_parts Tryd.info3
  have HQ := hide (fun W4 hp4 => positions_seq 8 rfl b vr m k a e W4 hp4 hl hm hk ha he)
  obtain ⟨xs, hxs⟩ : ∃ xs, posL m k a e = xs := ⟨_, rfl⟩
  rw [hxs] at hlen HQ ⊢
  clear hxs hm
  refine (callsIn_wide (n := 9)).1 ?_
  unfold posV
  refine callsIn_of_wp_marks Tryd.func21 rfl trivial ?_ rfl
  simp only [Tryd.ntmps21, List.size_toArray, List.length_cons, List.length_nil, Nat.reduceAdd, Nat.reduceSub, Array.replicate_succ, Array.replicate_zero, List.push_toArray, List.append_toArray, List.nil_append, List.cons_append]
  gi_wp2
  (try simp only [Nat.add_assoc, Nat.reduceAdd])
  obtain ⟨W4, hW4⟩ : ∃ W4, ((((w.alloc (.cells #[.int .i64 (most : Int)] 3)).alloc (.cells #[.slice none 0 0] 49)).alloc (.cells #[.bool false] 4)).alloc (.cells #[.slice none 0 0] 49)) = W4 := ⟨_, rfl⟩
  have s4 : W4.heap.size = w.heap.size + 4 := by rw [← hW4]; simp
  have b0 : Boxed W4 w.heap.size 3 (.int .i64 (most : Int)) := by rw [← hW4]; exact ((((boxed_new' (by simp)).alloc _).alloc _).alloc _)
  have b1 : Boxed W4 (w.heap.size + 1) 49 (.slice none 0 0) := by rw [← hW4]; exact (((boxed_new' (by simp)).alloc _).alloc _)
  have b2 : Boxed W4 (w.heap.size + 2) 4 (.bool false) := by rw [← hW4]; exact ((boxed_new' (by simp)).alloc _)
  have b3 : Boxed W4 (w.heap.size + 3) 49 (.slice none 0 0) := by rw [← hW4]; exact (boxed_new' (by simp))
  have hB4 : Below w.heap.size w W4 := by
    rw [← hW4]
    exact ((((Below.refl _ w).alloc (Nat.le_refl _) _).alloc (by simp) _).alloc (by simp; omega) _).alloc (by simp; omega) _
  rw [hW4]
  clear hW4
  have hp4 := hp.below hB4
  have hpw : ∀ c, onPos b vr c → c < w.heap.size := fun c hc => hp.lt hc
  have Q0 := hide (HQ.out W4 hp4)
  clear hp hp4 HQ
  refine range_lawT (α := Int) (by decide) (gf := 32) (lb := #[.pointer (some ⟨b + 3, 0, none⟩), .pointer (some ⟨b + 2, 0, none⟩), .pointer (some ⟨b, 0, none⟩), .pointer (some ⟨b + 1, 0, none⟩)]) rfl (enters_of Tryd.func32 (by kernel_rfl) rfl)
    Q0.out (fun c hc => by have := hpw c hc; omega) (fun _ => rfl)
    (fun i T X => ((∃ v, Boxed X (w.heap.size + 3) 49 v ∧ X.ownsRow (w.heap.size + 4) 3 1 v i ((xs.map (Value.int .i64)).take i) ∧ ∀ c, T c ↔ v.ownBlock = some c) ∧ Boxed X w.heap.size 3 (.int .i64 (most : Int)) ∧ Boxed X (w.heap.size + 1) 49 (.slice none 0 0) ∧ Boxed X (w.heap.size + 2) 4 (.bool false) ∧ w.heap.size + 4 ≤ X.heap.size) ∧ Below w.heap.size w X)
    (fun _ _ _ => False)
    ?hI ?hIT (fun _ _ _ _ _ h _ _ => h) ?h0
    (fun x => { tmps := #[.func (.func 32) #[] #[.pointer (some ⟨b + 3, 0, none⟩), .pointer (some ⟨b + 2, 0, none⟩), .pointer (some ⟨b, 0, none⟩), .pointer (some ⟨b + 1, 0, none⟩)], .int .i64 (most : Int), undef, .pointer (some ⟨w.heap.size, 0, none⟩), .pointer (some ⟨w.heap.size + 1, 0, none⟩), .pointer (some ⟨w.heap.size + 2, 0, none⟩), .pointer (some ⟨w.heap.size + 3, 0, none⟩), .int .i64 x, .func (.func 32) #[] #[.pointer (some ⟨b + 3, 0, none⟩), .pointer (some ⟨b + 2, 0, none⟩), .pointer (some ⟨b, 0, none⟩), .pointer (some ⟨b + 1, 0, none⟩)], .bool false, .func (.func 32) #[] #[.pointer (some ⟨b + 3, 0, none⟩), .pointer (some ⟨b + 2, 0, none⟩), .pointer (some ⟨b, 0, none⟩), .pointer (some ⟨b + 1, 0, none⟩)], .int .i64 x, undef, undef, undef, undef, undef, undef, undef, undef, undef, undef], defers := [] }) ?assign ?body ?done ?stop
  case hI =>
    intro T
    refine OwnFrom.and (Own.from (fun i X Y row hh hg hr => ?_) _) (ownFrom_below (Nat.le_refl _) (by omega))
    obtain ⟨⟨v, h1, h2, h3⟩, h4, h5, h6, hsz⟩ := hh
    exact ⟨⟨v, boxed_own' hg hr h1, ownsRow_own' hg hr h2, h3⟩, boxed_own' hg hr h4, boxed_own' hg hr h5, boxed_own' hg hr h6, Nat.le_trans hsz hg.size⟩
  case hIT =>
    rintro i T X ⟨⟨⟨v, h1, h2, h3⟩, _⟩, _⟩ c hc
    exact (h2.lt c ((h3 c).1 hc)).2
  case h0 => exact ⟨fun _ => False, ⟨⟨_, b3, World.ownsRow_nil _ _ _ _, fun c => ⟨fun h => h.elim, fun h => by cases h⟩⟩, b0, b1, b2, by omega⟩, hB4⟩
  case assign =>
    intro l x X K hK
    dsimp only [encInt]
    gi_wp2
    exact hK
  case body =>
    rintro lp i hii T X ⟨⟨⟨v, h1, h2, h3⟩, h4, h5, h6, hsz⟩, hB⟩
    clear b0 b1 b2 b3 hB4 Q0
    obtain ⟨pa, ca, rfl⟩ := ownsRow_slice h2
    have hsn : (xs.map (Value.int .i64)).take (i + 1) = (xs.map (Value.int .i64)).take i ++ [.int .i64 xs[i]] := by
      rw [List.take_add_one, List.getElem?_map, List.getElem?_eq_getElem hii]
      rfl
    have Hsn := hide hsn
    clear hsn
    generalize xs[i] = x at *
    have c3 := h1.cell
    have f3 := h1.frozen
    have c0 := h4.cell
    have hlt : ¬ (most : Int) ≤ (i : Int) := by omega
    have hbs := hB.size
    have HT := hide h3
    clear h3
    gi_wp2_with (gi_at_builtin; refine wpListIn_append_own_at _ rfl (.tmp 17) _ 49 rfl (w.heap.size + 4) 3 i0 (.int .i64 0) 1 8 Tryd.underlying49 hi hz0 hz1 hz2 rfl (by decide) _ _ _ rfl (World.ownsRow.alloc h2 _) ⟨_, 0, none⟩ 1 1 [.int .i64 x] rfl rfl (cell_one_at (by simp)) (by intro u hu; simp at hu; subst hu; rfl) (by unfold maxLen; omega) (by omega) (by simp; omega) ?_; intro v1 w1 hown1 hgrow1 _ hat1; obtain ⟨g1, cap1, rfl⟩ := ownsRow_succ hown1; obtain ⟨bx1, t1, r1, k1, hb1, ho1⟩ := app_lowS (N := w.heap.size) h1 h2 (by omega) (by omega) (by omega) hown1 hgrow1; have d1 := bx1.cell; have g1f := bx1.frozen; replace hgrow1 := hide hgrow1; replace hat1 := hide hat1; clear hown1)
    have q : ∀ c, c < w.heap.size + 4 → c ≠ w.heap.size + 3 → _ = X.heap[c]? := fun c hc h2 => ho1.out c hc h2
    refine ⟨⟨fun c => g1 = c, ⟨⟨⟨_, t1, ?_, fun c => ⟨fun h => by rw [h]; rfl, fun h => by simpa [Value.ownBlock] using h⟩⟩, boxed_of_heap h4 (q _ (by omega) (by omega)), boxed_of_heap h5 (q _ (by omega) (by omega)), boxed_of_heap h6 (q _ (by omega) (by omega)), ?_⟩, hB.trans hb1⟩, ⟨k1.from _, fun c hc1 hc2 hc3 => app_other hgrow1.out c hc2 (fun e => hc3 ((HT.out c).2 e.symm)) (by omega), ?_⟩⟩, fun c hc => q c (by have := hpw c hc; omega) (by have := hpw c hc; omega)⟩
    · rw [Hsn.out]
      exact r1
    · have := hb1.size
      simp at this ⊢
      omega
    · rintro c hc rfl
      rcases hat1.out with h | h
      · exact (HT.out _).2 (h.symm.trans rfl)
      · simp [Value.ownBlock] at h
        omega
  case done =>
    rintro D T X hD ⟨⟨⟨v, h1, h2, -⟩, h4, h5, h6, hsz⟩, hB⟩ hK
    clear b0 b1 b2 b3 hB4 Q0
    rw [List.take_of_length_le (by simp)] at h2
    obtain ⟨pa, ca, rfl⟩ := ownsRow_slice h2
    have c3 := h1.cell
    have c1 := h5.cell
    have c2 := h6.cell
    have f1 := h5.frozen
    have f2 := h6.frozen
    gi_wp2
    obtain ⟨W3, hW3⟩ : ∃ W3, (X.setCell ⟨w.heap.size + 1, 0, none⟩ (.slice pa xs.length ca)).setCell ⟨w.heap.size + 2, 0, none⟩ (.bool true) = W3 := ⟨_, rfl⟩
    have hK3 : W3.heap[D]? = some (.deferred (some [])) := by
      rw [← hW3]
      exact (KeepsOthers.setCell _ _ _).same D _ ((KeepsOthers.setCell _ _ _).same D _ hK rfl) rfl
    have R0 : Boxed W3 (w.heap.size + 1) 49 (.slice pa xs.length ca) := by rw [← hW3]; exact boxed_of_heap (h5.set _) (one_set _ (by omega))
    have R1 : Boxed W3 (w.heap.size + 2) 4 (.bool true) := by rw [← hW3]; exact (boxed_of_heap h6 (one_set _ (by omega))).set _
    have hB3 : Below w.heap.size w W3 := by rw [← hW3]; exact (hB.setCell (p := ⟨w.heap.size + 1, 0, none⟩) (by simp) _).setCell (p := ⟨w.heap.size + 2, 0, none⟩) (by simp) _
    have hk3 : ∀ c, w.heap.size + 4 ≤ c → W3.heap[c]? = X.heap[c]? := by intro c hc; rw [← hW3]; exact two_sets c (by omega) (by omega)
    rw [hW3]
    have hg := grownBy_putObj' W3 D (.deferred none)
    have hr : ∀ r, some D = some r → ∃ o : Obj, W3.heap[r]? = some o ∧ o.isCells = false := fun r e => by cases e; exact ⟨_, hK3, rfl⟩
    have Q0 := (boxed_own' hg hr R0).cell
    have Q1 := (boxed_own' hg hr R1).cell
    refine ⟨by simp, .inl ⟨_, _, rfl, run_takeDeferred hK3, ?_⟩⟩
    refine ⟨.tuple #[.slice pa xs.length ca, .bool true], by simp [results, Tryd.f21, go_sem, Q0, Q1], .slice pa xs.length ca, rfl, ?_, hB3.trans (belowK_b (w := w) (Nat.le_refl _) W3 D _ _ (by omega) hK3 rfl rfl)⟩
    exact ownsRow_low (ownsRow_own' hg hr (ownsRow_of_heap h2 (fun k hk => hk3 k (h2.lt k hk).1))) (by omega)
  case stop =>
    rintro D c i X hD hii h hK
    exact h.elim

end Go.Proofs.YtndhkbmgpjjepaaDoor
