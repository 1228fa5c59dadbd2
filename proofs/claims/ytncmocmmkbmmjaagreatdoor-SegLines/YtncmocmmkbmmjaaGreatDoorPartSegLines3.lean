/- Own work: the parts W13, W14, W10, W15, Plain, Words, Words2 of the proof, laid together. -/
import Derived.Test.YtncmocmmkbmmjaaGreatDoorPartSegLines2
/- vec's parseNumbers and Parse: a text as a vector. Own work; no statement. -/
set_option linter.unusedSimpArgs false
set_option linter.unusedVariables false
namespace Go.Proofs.YtncmocmmkbmmjaaGreatDoor
open Go.RowKit Go.Shelf

attribute [local go_sem] Oper.semAt_some

/-- 'x = append(x, ..)' by way of x's box B, the rows all beyond the boxes: every other block below them is as it was. -/
theorem app_low {W w1 : World} {N n₁ B : Nat} {t e : TypeId} {v v' : Value} {k m : Nat} {xs ys : List Value} {tmp : Obj} (hv : Boxed W B t v) (hrow : W.ownsRow n₁ e 1 v k xs) (hn : n₁ ≤ W.heap.size) (hB : B < n₁) (hN : N ≤ B)
    (hown : w1.ownsRow n₁ e 1 v' m ys) (hgrow : (W.alloc tmp).grownBy w1 v.ownBlock) :
    Boxed w1 B t v ∧ Boxed (w1.setCell ⟨B, 0, none⟩ v') B t v' ∧ (w1.setCell ⟨B, 0, none⟩ v').ownsRow n₁ e 1 v' m ys ∧ KeepsOthers W (w1.setCell ⟨B, 0, none⟩ v') ∧ Below N W (w1.setCell ⟨B, 0, none⟩ v') ∧
      Hid (∀ b, b < n₁ → b ≠ B → (w1.setCell ⟨B, 0, none⟩ v').heap[b]? = W.heap[b]?) := by
  have hne : ∀ b, b < n₁ → some b ≠ v.ownBlock := fun b hb e' => by have := (hrow.lt b e'.symm).1; omega
  have hv1 : Boxed w1 B t v := (hv.alloc tmp).kept hgrow (hne B hB)
  have hoth : ∀ b, b < n₁ → b ≠ B → (w1.setCell ⟨B, 0, none⟩ v').heap[b]? = W.heap[b]? := fun b hb hbB => app_other hgrow b (by omega) (hne b hb) hbB
  refine ⟨hv1, hv1.set v', ownsRow_of_heap hown (fun k hk => Below.heap_setCell _ _ _ _ (fun e' => by have := (hown.lt k hk).1; have e2 : k = B := e'; omega)), ?_, ?_, hoth⟩
  · refine ((KeepsOthers.alloc W tmp).trans (KeepsOthers.of_grownBy hgrow fun j o ej hj => ?_)).trans (KeepsOthers.setCell _ _ _)
    rcases (hrow.alloc tmp).2 with ⟨rfl, _⟩ | ⟨g, cap, cur, rfl, _, hgb, _⟩
    · simp [Value.ownBlock] at ej
    · obtain rfl : g = j := by simpa [Value.ownBlock] using ej
      rw [hgb] at hj; cases hj; rfl
  · exact (((Below.refl N W).alloc (by omega) tmp).grown hgrow (by simp; omega) (fun j ej => by have := (hrow.lt j ej).1; omega)).setCell (p := ⟨B, 0, none⟩) hN v'

theorem boxed_new' {W : World} {b : Nat} {t : TypeId} {v : Value} (h : b = W.heap.size) : Boxed (W.alloc (.cells #[v] t)) b t v := h ▸ Boxed.new W t v

theorem one_set {W : World} {a : Nat} {u : Value} (k : Nat) (h : k ≠ a) : (W.setCell ⟨a, 0, none⟩ u).heap[k]? = W.heap[k]? := Below.heap_setCell _ _ _ _ h
theorem two_sets {W : World} {a b : Nat} {u v : Value} (k : Nat) (h1 : k ≠ a) (h2 : k ≠ b) : ((W.setCell ⟨a, 0, none⟩ u).setCell ⟨b, 0, none⟩ v).heap[k]? = W.heap[k]? := (one_set k h2).trans (one_set k h1)

/-- One word more: what is there, the last number, whether there was too much. -/
def stepW (st : List Int × Int × Bool) (x : List UInt8) : List Int × Int × Bool :=
  if 1048576 < decTo x 0 ∨ st.1.length = 8 then (st.1, decTo x 0, true) else (st.1 ++ [decTo x 0], decTo x 0, st.2.2)
def stOf (ws : List (List UInt8)) : List Int × Int × Bool := ws.foldl stepW ([], 0, false)
theorem stOf_snoc (ws : List (List UInt8)) (x : List UInt8) : stOf (ws ++ [x]) = stepW (stOf ws) x := by simp [stOf]
theorem stOf_len : ∀ (ws : List (List UInt8)), (stOf ws).1.length ≤ 8 := by
  have : ∀ (ws : List (List UInt8)) st, st.1.length ≤ 8 → (ws.foldl stepW st).1.length ≤ 8 := by
    intro ws
    induction ws with
    | nil => intro st h; exact h
    | cons x ws ih =>
      intro st h
      refine ih _ ?_
      unfold stepW
      split
      · exact h
      · simp; omega
  exact fun ws => this ws _ (by simp)
/-- Words as numbers, or why not: the vector and the error's number. -/
def parseN (ws : List (List UInt8)) : List Int × Int :=
  if ws.all decOk then (if (stOf ws).2.1 = 0 then ([], 2) else if (stOf ws).2.2 then ([], 4) else ((stOf ws).1, 0)) else ([], 2)

set_option maxRecDepth 100000 in
set_option maxHeartbeats 4000000 in
theorem parseNumbersO_calls (s : List UInt8) (w : World) (hs : s.length ≤ 1099511627776) :
    Calls Tryz.prog 115 #[.string ⟨s.toArray⟩] w fun e w' => ∃ v, e = .returned (.tuple #[v, .int .i64 (parseN (splitL s)).2]) ∧ w'.ownsRow w.heap.size 3 1 v (parseN (splitL s)).1.length ((parseN (splitL s)).1.map (Value.int .i64)) ∧ Below w.heap.size w w' := by
  obtain ⟨i0, hi, hz0, hz1, hz2⟩ := info_parts Tryz.info3
  refine (callsIn_wide (n := 5)).1 ?_
  refine callsIn_of_wp_marks Tryz.func115 rfl trivial ?_ rfl
  simp only [Tryz.ntmps115, List.size_toArray, List.length_cons, List.length_nil, Nat.reduceAdd, Nat.reduceSub, Array.replicate_succ, Array.replicate_zero, List.push_toArray, List.append_toArray, List.nil_append, List.cons_append]
  gi_wp2_with (refine ⟨trivial, ?_⟩; gi_at_call 123; refine ((callsIn_wide (n := _)).2 (splitSeq_calls _ _)).mono ?_; rintro e w' ⟨rfl, rfl⟩)
  simp only [Nat.add_assoc, Nat.reduceAdd]
  obtain ⟨W8, hW8⟩ : ∃ W8, (((((((w.alloc (.cells #[.slice none 0 0] 55)).alloc (.cells #[.int .i64 0] 25)).alloc (.cells #[.slice none 0 0] 55)).alloc (.cells #[.int .i64 0] 3)).alloc (.cells #[.bool false] 4)).alloc
    (.cells #[.string ⟨s.toArray⟩] 9)).alloc (.cells #[.string ⟨#[32]⟩] 9)).alloc (.cells #[.int .i64 0] 3) = W8 := ⟨_, rfl⟩
  have s8 : W8.heap.size = w.heap.size + 8 := by rw [← hW8]; simp
  have b0 : Boxed W8 w.heap.size 55 (.slice none 0 0) := by rw [← hW8]; exact ((((((((boxed_new' (by simp)).alloc _).alloc _).alloc _).alloc _).alloc _).alloc _).alloc _)
  have b1 : Boxed W8 (w.heap.size + 1) 25 (.int .i64 0) := by rw [← hW8]; exact (((((((boxed_new' (by simp)).alloc _).alloc _).alloc _).alloc _).alloc _).alloc _)
  have b2 : Boxed W8 (w.heap.size + 2) 55 (.slice none 0 0) := by rw [← hW8]; exact ((((((boxed_new' (by simp)).alloc _).alloc _).alloc _).alloc _).alloc _)
  have b3 : Boxed W8 (w.heap.size + 3) 3 (.int .i64 0) := by rw [← hW8]; exact (((((boxed_new' (by simp)).alloc _).alloc _).alloc _).alloc _)
  have b4 : Boxed W8 (w.heap.size + 4) 4 (.bool false) := by rw [← hW8]; exact ((((boxed_new' (by simp)).alloc _).alloc _).alloc _)
  have b5 : IsSplit W8 (w.heap.size + 5) s := by rw [← hW8]; exact ⟨(((boxed_new' (by simp)).alloc _).alloc _), ((boxed_new' (by simp)).alloc _), (boxed_new' (by simp))⟩
  have hB8 : Below w.heap.size w W8 := by
    rw [← hW8]
    exact ((((((((Below.refl _ w).alloc (Nat.le_refl _) _).alloc (by simp) _).alloc (by simp; omega) _).alloc (by simp; omega) _).alloc (by simp; omega) _).alloc (by simp; omega) _).alloc (by simp; omega) _).alloc (by simp; omega) _
  rw [hW8]
  clear hW8
  refine range_law (by decide) (gf := 138) (lb := #[.pointer (some ⟨w.heap.size + 6, 0, none⟩), .pointer (some ⟨w.heap.size + 5, 0, none⟩), .pointer (some ⟨w.heap.size + 7, 0, none⟩)]) rfl (enters_of Tryz.func138 (by kernel_rfl) rfl)
    (split_stops 4 (by decide) (w.heap.size + 5) s hs W8 b5) keepsThree_t (keepsThree_b (by omega)) ?hE (fun _ => rfl)
    (fun pre W => ((∃ v, Boxed W (w.heap.size + 2) 55 v ∧ W.ownsRow (w.heap.size + 8) 3 1 v (stOf (pre.map (·.1))).1.length ((stOf (pre.map (·.1))).1.map (Value.int .i64))) ∧ Boxed W (w.heap.size + 3) 3 (.int .i64 (stOf (pre.map (·.1))).2.1) ∧ Boxed W (w.heap.size + 4) 4 (.bool (stOf (pre.map (·.1))).2.2) ∧
      Boxed W w.heap.size 55 (.slice none 0 0) ∧ Boxed W (w.heap.size + 1) 25 (.int .i64 0) ∧ ((pre.map (·.1)).all decOk = true) ∧ w.heap.size + 8 ≤ W.heap.size) ∧ Below w.heap.size w W)
    (fun c pre W => (c = .ret ∧ Boxed W w.heap.size 55 (.slice none 0 0) ∧ Boxed W (w.heap.size + 1) 25 (.int .i64 2) ∧ ((pre.map (·.1)).all decOk = false)) ∧ Below w.heap.size w W)
    ?hI ?hIx ?hIE ?hIxE ?h0
    (fun x => { tmps := #[.string ⟨s.toArray⟩, undef, .pointer (some ⟨w.heap.size, 0, none⟩), .pointer (some ⟨w.heap.size + 1, 0, none⟩), .pointer (some ⟨w.heap.size + 2, 0, none⟩), .pointer (some ⟨w.heap.size + 3, 0, none⟩), .pointer (some ⟨w.heap.size + 4, 0, none⟩), .string ⟨x.1.toArray⟩, undef, undef, .string ⟨s.toArray⟩, .func (.func 138) #[] #[.pointer (some ⟨w.heap.size + 6, 0, none⟩), .pointer (some ⟨w.heap.size + 5, 0, none⟩), .pointer (some ⟨w.heap.size + 7, 0, none⟩)], .string ⟨x.1.toArray⟩, undef, undef, undef, undef, undef, undef, undef, undef, undef, undef, undef, undef, undef, undef, undef, undef, undef, undef, undef, undef, undef, undef, undef], defers := [] }) ?assign ?body ?done ?stop
  case hE =>
    rintro A B ⟨v, rfl⟩
    exact (KeepsOthers.setCell _ _ _).from _
  case hI =>
    refine OwnFrom.and (Own.from (fun pre X Y row hh hg hr => ?_) _) (ownFrom_below (Nat.le_refl _) (by omega))
    obtain ⟨⟨v, h1, h2⟩, h3, h4, h5, h6, h7, hsz⟩ := hh
    exact ⟨⟨v, boxed_own' hg hr h1, ownsRow_own' hg hr h2⟩, boxed_own' hg hr h3, boxed_own' hg hr h4, boxed_own' hg hr h5, boxed_own' hg hr h6, h7, Nat.le_trans hsz hg.size⟩
  case hIx =>
    intro c
    refine OwnFrom.and (Own.from (fun pre X Y row hh hg hr => ?_) _) (ownFrom_below (Nat.le_refl _) (by omega))
    exact ⟨hh.1, boxed_own' hg hr hh.2.1, boxed_own' hg hr hh.2.2.1, hh.2.2.2⟩
  case hIE =>
    rintro pre A B ⟨⟨⟨v, h1, h2⟩, h3, h4, h5, h6, h7, hsz⟩, hB⟩ ⟨u, rfl⟩
    have hk : ∀ k, k ≠ w.heap.size + 5 → (A.setCell ⟨w.heap.size + 5, 0, none⟩ u).heap[k]? = A.heap[k]? := fun k h => Below.heap_setCell _ _ _ _ h
    exact ⟨⟨⟨v, boxed_of_heap h1 (hk _ (by omega)), ownsRow_of_heap h2 (fun k hk' => hk k (by have := (h2.lt k hk').1; omega))⟩, boxed_of_heap h3 (hk _ (by omega)), boxed_of_heap h4 (hk _ (by omega)), boxed_of_heap h5 (hk _ (by omega)), boxed_of_heap h6 (hk _ (by omega)), h7, by simpa using hsz⟩, hB.setCell (p := ⟨w.heap.size + 5, 0, none⟩) (by simp) _⟩
  case hIxE =>
    rintro c pre A B ⟨⟨hc, h1, h2, h3⟩, hB⟩ ⟨u, rfl⟩
    have hk : ∀ k, k ≠ w.heap.size + 5 → (A.setCell ⟨w.heap.size + 5, 0, none⟩ u).heap[k]? = A.heap[k]? := fun k h => Below.heap_setCell _ _ _ _ h
    exact ⟨⟨hc, boxed_of_heap h1 (hk _ (by omega)), boxed_of_heap h2 (hk _ (by omega)), h3⟩, hB.setCell (p := ⟨w.heap.size + 5, 0, none⟩) (by simp) _⟩
  case h0 => exact ⟨⟨⟨_, b2, World.ownsRow_nil _ _ _ _⟩, b3, b4, b0, b1, rfl, by omega⟩, hB8⟩
  case assign =>
    intro l x W K hK
    gi_wp2
    exact hK
  case body =>
    rintro lp pre ⟨x, hx⟩ W ⟨⟨⟨v, h1, h2⟩, h3, h4, h5, h6, h7, hsz⟩, hB⟩ hlt
    clear b0 b1 b2 b3 b4 b5 hB8
    obtain ⟨pa, ca, rfl⟩ := ownsRow_slice h2
    have hsnoc := hide (stOf_snoc (pre.map (·.1)) x)
    have hl8 := stOf_len (pre.map (·.1))
    have hall : ∀ b, decOk x = b → ((pre ++ [(⟨x, hx⟩ : Word)]).map (·.1)).all decOk = b := by
      intro b hb
      rw [List.map_append, List.all_append, h7]
      simp [hb]
    have Hall := hide hall
    generalize hst : stOf (pre.map (·.1)) = st at *
    obtain ⟨l, last, long⟩ := st
    dsimp only at *
    have c2 := h1.cell
    have c3 := h3.cell
    have c4 := h4.cell
    have c0 := h5.cell
    have c1 := h6.cell
    have f2 := h1.frozen
    have f3 := h3.frozen
    have f4 := h4.frozen
    have f0 := h5.frozen
    have f1 := h6.frozen
    clear hall hst
    cases hd : decOk x with
    | false =>
      have HD := hide hd
      clear hd
      gi_wp2_with (refine ⟨trivial, ?_⟩; gi_at_call 99; refine (CallsIn.inRound lp ((callsIn_wide (n := _)).2 (decimal_calls ⟨x.toArray⟩ _ (by simpa [ByteArray.size] using hx)))).mono ?_; rintro e w' ⟨rfl, rfl⟩; rw [show (⟨x.toArray⟩ : ByteArray).data.toList = x from rfl, HD.out])
      exact ⟨((KeepsOthers.setCell _ _ _).trans (KeepsOthers.setCell _ _ _)).from _, ⟨rfl, boxed_of_heap (h5.set _) (one_set _ (by omega)), (boxed_of_heap h6 (one_set _ (by omega))).set _, Hall.out _ HD.out⟩, (hB.setCell (p := ⟨w.heap.size, 0, none⟩) (by simp) _).setCell (p := ⟨w.heap.size + 1, 0, none⟩) (by simp) _⟩
    | true =>
      have HD := hide hd
      clear hd
      unfold stepW at hsnoc
      dsimp only at hsnoc
      generalize hdn : decTo x 0 = n at *
      have HDN := hide hdn
      clear hdn
      by_cases hn : 1048576 < n
      · gi_wp2_with (refine ⟨trivial, ?_⟩; gi_at_call 99; refine (CallsIn.inRound lp ((callsIn_wide (n := _)).2 (decimal_calls ⟨x.toArray⟩ _ (by simpa [ByteArray.size] using hx)))).mono ?_; rintro e w' ⟨rfl, rfl⟩; rw [show (⟨x.toArray⟩ : ByteArray).data.toList = x from rfl, HD.out, if_pos rfl, HDN.out])
        refine ⟨((KeepsOthers.setCell _ _ _).trans (KeepsOthers.setCell _ _ _)).from _, ⟨two_sets _ (by omega) (by omega), two_sets _ (by omega) (by omega), two_sets _ (by omega) (by omega)⟩, ⟨⟨_, boxed_of_heap h1 (two_sets _ (by omega) (by omega)), ?_⟩, ?_, ?_, boxed_of_heap h5 (two_sets _ (by omega) (by omega)), boxed_of_heap h6 (two_sets _ (by omega) (by omega)), Hall.out _ HD.out, by simpa using hsz⟩, (hB.setCell (p := ⟨w.heap.size + 3, 0, none⟩) (by simp) _).setCell (p := ⟨w.heap.size + 4, 0, none⟩) (by simp) _⟩
        · rw [List.map_append]
          simp only [List.map_cons, List.map_nil]
          rw [hsnoc.out, if_pos (.inl hn)]
          exact ownsRow_of_heap h2 (fun k hk => two_sets k (by have := (h2.lt k hk).1; omega) (by have := (h2.lt k hk).1; omega))
        · rw [List.map_append]
          simp only [List.map_cons, List.map_nil]
          rw [hsnoc.out, if_pos (.inl hn)]
          exact boxed_of_heap (h3.set _) (one_set _ (by omega))
        · rw [List.map_append]
          simp only [List.map_cons, List.map_nil]
          rw [hsnoc.out, if_pos (.inl hn)]
          exact (boxed_of_heap h4 (one_set _ (by omega))).set _
      · by_cases h8 : l.length = 8
        · have h8' : ((l.length : Int) == 8) = true := by simp [h8]
          replace h8 := hide h8
          gi_wp2_with (refine ⟨trivial, ?_⟩; gi_at_call 99; refine (CallsIn.inRound lp ((callsIn_wide (n := _)).2 (decimal_calls ⟨x.toArray⟩ _ (by simpa [ByteArray.size] using hx)))).mono ?_; rintro e w' ⟨rfl, rfl⟩; rw [show (⟨x.toArray⟩ : ByteArray).data.toList = x from rfl, HD.out, if_pos rfl, HDN.out])
          refine ⟨((KeepsOthers.setCell _ _ _).trans (KeepsOthers.setCell _ _ _)).from _, ⟨two_sets _ (by omega) (by omega), two_sets _ (by omega) (by omega), two_sets _ (by omega) (by omega)⟩, ⟨⟨_, boxed_of_heap h1 (two_sets _ (by omega) (by omega)), ?_⟩, ?_, ?_, boxed_of_heap h5 (two_sets _ (by omega) (by omega)), boxed_of_heap h6 (two_sets _ (by omega) (by omega)), Hall.out _ HD.out, by simpa using hsz⟩, (hB.setCell (p := ⟨w.heap.size + 3, 0, none⟩) (by simp) _).setCell (p := ⟨w.heap.size + 4, 0, none⟩) (by simp) _⟩
          · rw [List.map_append]
            simp only [List.map_cons, List.map_nil]
            rw [hsnoc.out, if_pos (.inr h8.out)]
            exact ownsRow_of_heap h2 (fun k hk => two_sets k (by have := (h2.lt k hk).1; omega) (by have := (h2.lt k hk).1; omega))
          · rw [List.map_append]
            simp only [List.map_cons, List.map_nil]
            rw [hsnoc.out, if_pos (.inr h8.out)]
            exact boxed_of_heap (h3.set _) (one_set _ (by omega))
          · rw [List.map_append]
            simp only [List.map_cons, List.map_nil]
            rw [hsnoc.out, if_pos (.inr h8.out)]
            exact (boxed_of_heap h4 (one_set _ (by omega))).set _
        · have h8' : ((l.length : Int) == 8) = false := by simp; omega
          have hif := hide (show ¬ (1048576 < n ∨ l.length = 8) by omega)
          have h1' := boxed_of_heap h1 (one_set (a := w.heap.size + 3) (u := .int .i64 n) (w.heap.size + 2) (by omega))
          have h2' := ownsRow_of_heap h2 (fun k hk => one_set (a := w.heap.size + 3) (u := .int .i64 n) k (by have := (h2.lt k hk).1; omega))
          have hbs := hB.size
          gi_wp2_with (first | (refine ⟨trivial, ?_⟩; gi_at_call 99; refine (CallsIn.inRound lp ((callsIn_wide (n := _)).2 (decimal_calls ⟨x.toArray⟩ _ (by simpa [ByteArray.size] using hx)))).mono ?_; rintro e w' ⟨rfl, rfl⟩; rw [show (⟨x.toArray⟩ : ByteArray).data.toList = x from rfl, HD.out, if_pos rfl, HDN.out]) | (gi_at_builtin; refine wpListIn_append_own_at _ rfl (.tmp 28) _ 55 rfl (w.heap.size + 8) 3 i0 (.int .i64 0) 1 8 Tryz.underlying55 hi hz0 hz1 hz2 rfl (by decide) _ _ _ rfl (World.ownsRow.alloc h2' _) ⟨_, 0, none⟩ 1 1 [.int .i64 n] rfl rfl (cell_one_at (by simp)) (by intro u hu; simp at hu; subst hu; rfl) (by unfold maxLen; omega) (by omega) (by simp; omega) ?_; intro v1 w1 hown1 hgrow1 _ hat1; obtain ⟨g1, cap1, rfl⟩ := ownsRow_succ hown1; obtain ⟨bx1, t1, r1, k1, hb1, ho1⟩ := app_low (N := w.heap.size) h1' h2' (by simp; omega) (by omega) (by omega) hown1 hgrow1; have d1 := bx1.cell; have g1f := bx1.frozen; clear hgrow1 hat1 hown1))
          have q : ∀ b, b < w.heap.size + 8 → b ≠ w.heap.size + 2 → b ≠ w.heap.size + 3 → _ = w'.heap[b]? := fun b hb h2 h3 => (ho1.out b hb h2).trans (one_set b h3)
          refine ⟨((KeepsOthers.setCell _ _ _).trans k1).from _, ⟨q _ (by omega) (by omega) (by omega), q _ (by omega) (by omega) (by omega), q _ (by omega) (by omega) (by omega)⟩, ⟨⟨_, t1, ?_⟩, ?_, ?_, boxed_of_heap h5 (q _ (by omega) (by omega) (by omega)), boxed_of_heap h6 (q _ (by omega) (by omega) (by omega)), Hall.out _ HD.out, ?_⟩, (hB.setCell (p := ⟨w.heap.size + 3, 0, none⟩) (by simp) _).trans hb1⟩
          · rw [List.map_append]
            simp only [List.map_cons, List.map_nil]
            rw [hsnoc.out, if_neg hif.out]
            simpa using r1
          · rw [List.map_append]
            simp only [List.map_cons, List.map_nil]
            rw [hsnoc.out, if_neg hif.out]
            exact boxed_of_heap (h3.set _) (ho1.out _ (by omega) (by omega))
          · rw [List.map_append]
            simp only [List.map_cons, List.map_nil]
            rw [hsnoc.out, if_neg hif.out]
            exact boxed_of_heap h4 (q _ (by omega) (by omega) (by omega))
          · have := hb1.size
            simp at this ⊢
            omega
  case done =>
    rintro D ys W hD hys ⟨⟨⟨v, h1, h2⟩, h3, h4, h5, h6, h7, hsz⟩, hB⟩ hK
    clear b0 b1 b2 b3 b4 b5 hB8
    obtain ⟨pa, ca, rfl⟩ := ownsRow_slice h2
    rw [hys] at h1 h2 h3 h4 h7
    have hp : parseN (splitL s) = (if (stOf (splitL s)).2.1 = 0 then ([], 2) else if (stOf (splitL s)).2.2 then ([], 4) else ((stOf (splitL s)).1, 0)) := by unfold parseN; rw [if_pos h7]
    generalize stOf (splitL s) = st at *
    obtain ⟨l, last, long⟩ := st
    dsimp only at *
    obtain ⟨pn, hpn⟩ : ∃ pn, parseN (splitL s) = pn := ⟨_, rfl⟩
    rw [hpn] at hp
    have Hp := hide hp
    have Hpn := hide hpn
    clear hp hpn hys h7
    have c2 := h1.cell
    have c3 := h3.cell
    have c4 := h4.cell
    have c0 := h5.cell
    have c1 := h6.cell
    have f0 := h5.frozen
    have f1 := h6.frozen
    by_cases hl0 : last = 0
    · have hl0' : (last == 0) = true := by simp [hl0]
      have e := Hp.out
      rw [if_pos hl0] at e
      subst e
      clear Hp hl0
      gi_wp2
      obtain ⟨W3, hW3⟩ : ∃ W3, (W.setCell ⟨w.heap.size, 0, none⟩ (.slice none 0 0)).setCell ⟨w.heap.size + 1, 0, none⟩ (.int .i64 2) = W3 := ⟨_, rfl⟩
      have hK3 : W3.heap[D]? = some (.deferred (some [])) := by
        rw [← hW3]
        exact (KeepsOthers.setCell _ _ _).same D _ ((KeepsOthers.setCell _ _ _).same D _ hK rfl) rfl
      have R0 : Boxed W3 w.heap.size 55 (.slice none 0 0) := by rw [← hW3]; exact boxed_of_heap (h5.set _) (one_set _ (by omega))
      have R1 : Boxed W3 (w.heap.size + 1) 25 (.int .i64 2) := by rw [← hW3]; exact (boxed_of_heap h6 (one_set _ (by omega))).set _
      have hB3 : Below w.heap.size w W3 := by rw [← hW3]; exact (hB.setCell (p := ⟨w.heap.size, 0, none⟩) (by simp) _).setCell (p := ⟨w.heap.size + 1, 0, none⟩) (by simp) _
      have hk3 : ∀ k, w.heap.size + 8 ≤ k → W3.heap[k]? = W.heap[k]? := by intro k hk; rw [← hW3]; exact two_sets k (by omega) (by omega)
      rw [hW3]
      have hg := grownBy_putObj' W3 D (.deferred none)
      have hr : ∀ r, some D = some r → ∃ o : Obj, W3.heap[r]? = some o ∧ o.isCells = false := fun r e => by cases e; exact ⟨_, hK3, rfl⟩
      have Q0 := (boxed_own' hg hr R0).cell
      have Q1 := (boxed_own' hg hr R1).cell
      refine ⟨by simp, .inl ⟨_, _, rfl, run_takeDeferred hK3, ?_⟩⟩
      refine ⟨.tuple #[.slice none 0 0, .int .i64 2], by simp [results, Tryz.f115, go_sem, Q0, Q1], .slice none 0 0, by rw [Hpn.out], ?_, hB3.trans (belowK_b (w := w) (Nat.le_refl _) W3 D _ _ (by omega) hK3 rfl rfl)⟩
      rw [Hpn.out]
      exact World.ownsRow_nil _ _ _ _
    · have hl0' : (last == 0) = false := by simp [hl0]
      have e := Hp.out
      rw [if_neg hl0] at e
      clear Hp hl0
      cases long with
      | true =>
        rw [if_pos rfl] at e
        subst e
        gi_wp2
        obtain ⟨W3, hW3⟩ : ∃ W3, (W.setCell ⟨w.heap.size, 0, none⟩ (.slice none 0 0)).setCell ⟨w.heap.size + 1, 0, none⟩ (.int .i64 4) = W3 := ⟨_, rfl⟩
        have hK3 : W3.heap[D]? = some (.deferred (some [])) := by
          rw [← hW3]
          exact (KeepsOthers.setCell _ _ _).same D _ ((KeepsOthers.setCell _ _ _).same D _ hK rfl) rfl
        have R0 : Boxed W3 w.heap.size 55 (.slice none 0 0) := by rw [← hW3]; exact boxed_of_heap (h5.set _) (one_set _ (by omega))
        have R1 : Boxed W3 (w.heap.size + 1) 25 (.int .i64 4) := by rw [← hW3]; exact (boxed_of_heap h6 (one_set _ (by omega))).set _
        have hB3 : Below w.heap.size w W3 := by rw [← hW3]; exact (hB.setCell (p := ⟨w.heap.size, 0, none⟩) (by simp) _).setCell (p := ⟨w.heap.size + 1, 0, none⟩) (by simp) _
        have hk3 : ∀ k, w.heap.size + 8 ≤ k → W3.heap[k]? = W.heap[k]? := by intro k hk; rw [← hW3]; exact two_sets k (by omega) (by omega)
        rw [hW3]
        have hg := grownBy_putObj' W3 D (.deferred none)
        have hr : ∀ r, some D = some r → ∃ o : Obj, W3.heap[r]? = some o ∧ o.isCells = false := fun r e => by cases e; exact ⟨_, hK3, rfl⟩
        have Q0 := (boxed_own' hg hr R0).cell
        have Q1 := (boxed_own' hg hr R1).cell
        refine ⟨by simp, .inl ⟨_, _, rfl, run_takeDeferred hK3, ?_⟩⟩
        refine ⟨.tuple #[.slice none 0 0, .int .i64 4], by simp [results, Tryz.f115, go_sem, Q0, Q1], .slice none 0 0, by rw [Hpn.out], ?_, hB3.trans (belowK_b (w := w) (Nat.le_refl _) W3 D _ _ (by omega) hK3 rfl rfl)⟩
        rw [Hpn.out]
        exact World.ownsRow_nil _ _ _ _
      | false =>
        rw [if_neg (by simp)] at e
        subst e
        gi_wp2
        obtain ⟨W3, hW3⟩ : ∃ W3, (W.setCell ⟨w.heap.size, 0, none⟩ (.slice pa l.length ca)).setCell ⟨w.heap.size + 1, 0, none⟩ (.int .i64 0) = W3 := ⟨_, rfl⟩
        have hK3 : W3.heap[D]? = some (.deferred (some [])) := by
          rw [← hW3]
          exact (KeepsOthers.setCell _ _ _).same D _ ((KeepsOthers.setCell _ _ _).same D _ hK rfl) rfl
        have R0 : Boxed W3 w.heap.size 55 (.slice pa l.length ca) := by rw [← hW3]; exact boxed_of_heap (h5.set _) (one_set _ (by omega))
        have R1 : Boxed W3 (w.heap.size + 1) 25 (.int .i64 0) := by rw [← hW3]; exact (boxed_of_heap h6 (one_set _ (by omega))).set _
        have hB3 : Below w.heap.size w W3 := by rw [← hW3]; exact (hB.setCell (p := ⟨w.heap.size, 0, none⟩) (by simp) _).setCell (p := ⟨w.heap.size + 1, 0, none⟩) (by simp) _
        have hk3 : ∀ k, w.heap.size + 8 ≤ k → W3.heap[k]? = W.heap[k]? := by intro k hk; rw [← hW3]; exact two_sets k (by omega) (by omega)
        rw [hW3]
        have hg := grownBy_putObj' W3 D (.deferred none)
        have hr : ∀ r, some D = some r → ∃ o : Obj, W3.heap[r]? = some o ∧ o.isCells = false := fun r e => by cases e; exact ⟨_, hK3, rfl⟩
        have Q0 := (boxed_own' hg hr R0).cell
        have Q1 := (boxed_own' hg hr R1).cell
        refine ⟨by simp, .inl ⟨_, _, rfl, run_takeDeferred hK3, ?_⟩⟩
        refine ⟨.tuple #[.slice pa l.length ca, .int .i64 0], by simp [results, Tryz.f115, go_sem, Q0, Q1], .slice pa l.length ca, by rw [Hpn.out], ?_, hB3.trans (belowK_b (w := w) (Nat.le_refl _) W3 D _ _ (by omega) hK3 rfl rfl)⟩
        rw [Hpn.out]
        exact ownsRow_low (ownsRow_own' hg hr (ownsRow_of_heap h2 (fun k hk => hk3 k (h2.lt k hk).1))) (by omega)
  case stop =>
    rintro D c pre W hD hpre ⟨⟨rfl, h5, h6, h7⟩, hB⟩ hK
    clear b0 b1 b2 b3 b4 b5 hB8
    have hpn : parseN (splitL s) = ([], 2) := by
      unfold parseN
      rw [if_neg]
      intro hall
      rw [List.all_eq_true] at hall
      rw [List.all_eq_false] at h7
      obtain ⟨x, hx, hx'⟩ := h7
      exact hx' (hall x (hpre.subset hx))
    have Hpn := hide hpn
    clear hpn h7
    gi_wp2
    have hg := grownBy_putObj' W D (.deferred none)
    have hr : ∀ r, some D = some r → ∃ o : Obj, W.heap[r]? = some o ∧ o.isCells = false := fun r e => by cases e; exact ⟨_, hK, rfl⟩
    have Q0 := (boxed_own' hg hr h5).cell
    have Q1 := (boxed_own' hg hr h6).cell
    refine ⟨by simp, .inl ⟨_, _, rfl, run_takeDeferred hK, ?_⟩⟩
    refine ⟨.tuple #[.slice none 0 0, .int .i64 2], by simp [results, Tryz.f115, go_sem, Q0, Q1], .slice none 0 0, by rw [Hpn.out], ?_, hB.trans (belowK_b (w := w) (Nat.le_refl _) W D _ _ (by omega) hK rfl rfl)⟩
    rw [Hpn.out]
    exact World.ownsRow_nil _ _ _ _

theorem parseNumbers_calls (s : List UInt8) (w : World) (hs : s.length ≤ 1099511627776) :
    Calls Tryz.prog 115 #[.string ⟨s.toArray⟩] w fun e w' => ∃ v, e = .returned (.tuple #[v, .int .i64 (parseN (splitL s)).2]) ∧ IsNums .i64 w' v (parseN (splitL s)).1 ∧ Below w.heap.size w w' :=
  (parseNumbersO_calls s w hs).mono fun _ _ ⟨v, he, ho, hb⟩ => ⟨v, he, IsNums.of_row ho, hb⟩

end Go.Proofs.YtncmocmmkbmmjaaGreatDoor

/- vec's Parse: a text as a vector. Own work; no statement. -/
set_option linter.unusedSimpArgs false
set_option linter.unusedVariables false
namespace Go.Proofs.YtncmocmmkbmmjaaGreatDoor
open Go.RowKit Go.Shelf

/-- What is between the brackets. -/
def innerL (s : List UInt8) : List UInt8 := Lib.trimSuffix (Lib.trimPrefix s [91]) [93]
def bracketB (s : List UInt8) : Bool := Lib.hasPrefix s [91] && Lib.hasSuffix (Lib.trimPrefix s [91]) [93]
/-- A text as a vector and the error's number. -/
def parseL (s : List UInt8) : List Int × Int := if bracketB s then (if innerL s = [] then ([], 0) else parseN (splitL (innerL s))) else ([], 2)

theorem trimPrefix_length (s p : List UInt8) : (Lib.trimPrefix s p).length ≤ s.length := by unfold Lib.trimPrefix; split <;> simp
theorem trimSuffix_length (s p : List UInt8) : (Lib.trimSuffix s p).length ≤ s.length := by unfold Lib.trimSuffix; split <;> simp

set_option maxHeartbeats 1000000 in
theorem parseO_calls (s : ByteArray) (w : World) (hs : s.size ≤ 1099511627776) :
    Calls Tryz.prog 101 #[.string s] w fun e w' => ∃ v, e = .returned (.tuple #[v, .int .i64 (parseL s.data.toList).2]) ∧ w'.ownsRow w.heap.size 3 1 v (parseL s.data.toList).1.length ((parseL s.data.toList).1.map (Value.int .i64)) ∧ Below w.heap.size w w' := by
  have hl1 := trimPrefix_length s.data.toList [91]
  have hl2 := trimSuffix_length (Lib.trimPrefix s.data.toList [91]) [93]
  rw [← Lib.size_eq] at hl1
  obtain ⟨pn, hpn⟩ : ∃ pn, parseL s.data.toList = pn := ⟨_, rfl⟩
  have hdef : parseL s.data.toList = if bracketB s.data.toList then (if innerL s.data.toList = [] then ([], 0) else parseN (splitL (innerL s.data.toList))) else ([], 2) := rfl
  rw [hpn] at hdef ⊢
  clear hpn
  unfold bracketB innerL at hdef
  have c1 := hide (Tryz.strings_CutPrefix s ⟨#[91]⟩ w)
  simp only [show (⟨#[91]⟩ : ByteArray).data.toList = [91] from rfl] at c1
  generalize hb : Lib.trimPrefix s.data.toList [91] = b1 at *
  generalize ho : Lib.hasPrefix s.data.toList [91] = o1 at *
  have c2 := hide (Tryz.strings_CutSuffix ⟨b1.toArray⟩ ⟨#[93]⟩ w (by simp [ByteArray.size]; omega))
  simp only [show (⟨#[93]⟩ : ByteArray).data.toList = [93] from rfl, show (⟨b1.toArray⟩ : ByteArray).data.toList = b1 from rfl] at c2
  generalize hb2 : Lib.trimSuffix b1 [93] = b2 at *
  generalize ho2 : Lib.hasSuffix b1 [93] = o2 at *
  have Hdef := hide hdef
  clear hb ho hb2 ho2 hdef
  cases o1 with
  | false =>
    have e : pn = ([], 2) := Hdef.out
    subst e
    go_enter Tryz.func101, Tryz.ntmps101
    go_wp2_with (first | (go_at_call 113; refine c1.out.mono ?_; rintro e w' ⟨rfl, rfl⟩) | (go_at_call 114; refine c2.out.mono ?_; rintro e w' ⟨rfl, rfl⟩))
    go_ret2
    exact ⟨_, rfl, World.ownsRow_nil _ _ _ _, Below.refl _ _⟩
  | true =>
    cases o2 with
    | false =>
      have e : pn = ([], 2) := Hdef.out
      subst e
      go_enter Tryz.func101, Tryz.ntmps101
      go_wp2_with (first | (go_at_call 113; refine c1.out.mono ?_; rintro e w' ⟨rfl, rfl⟩) | (go_at_call 114; refine c2.out.mono ?_; rintro e w' ⟨rfl, rfl⟩))
      go_ret2
      exact ⟨_, rfl, World.ownsRow_nil _ _ _ _, Below.refl _ _⟩
    | true =>
      cases b2 with
      | nil =>
        have e : pn = ([], 0) := Hdef.out
        subst e
        go_enter Tryz.func101, Tryz.ntmps101
        go_wp2_with (first | (go_at_call 113; refine c1.out.mono ?_; rintro e w' ⟨rfl, rfl⟩) | (go_at_call 114; refine c2.out.mono ?_; rintro e w' ⟨rfl, rfl⟩))
        go_ret2
        exact ⟨_, rfl, World.ownsRow_nil _ _ _ _, Below.refl _ _⟩
      | cons x b2 =>
        have e : pn = parseN (splitL (x :: b2)) := Hdef.out
        clear Hdef
        generalize hb3 : x :: b2 = b3 at *
        have hne : b3.isEmpty = false := by rw [← hb3]; rfl
        have hpc := hide (parseNumbersO_calls b3 w (by omega))
        rw [← e] at hpc
        clear hb3 e
        go_enter Tryz.func101, Tryz.ntmps101
        go_wp2_with (first | (go_at_call 113; refine c1.out.mono ?_; rintro e w' ⟨rfl, rfl⟩) | (go_at_call 114; refine c2.out.mono ?_; rintro e w' ⟨rfl, rfl⟩) | (go_at_call 115; refine hpc.out.mono ?_; rintro e w' ⟨v, rfl, hv, hB⟩))
        go_ret2
        exact ⟨_, rfl, hv, hB⟩

theorem parse_calls (s : ByteArray) (w : World) (hs : s.size ≤ 1099511627776) :
    Calls Tryz.prog 101 #[.string s] w fun e w' => ∃ v, e = .returned (.tuple #[v, .int .i64 (parseL s.data.toList).2]) ∧ IsNums .i64 w' v (parseL s.data.toList).1 ∧ Below w.heap.size w w' :=
  (parseO_calls s w hs).mono fun _ _ ⟨v, he, ho, hb⟩ => ⟨v, he, IsNums.of_row ho, hb⟩

end Go.Proofs.YtncmocmmkbmmjaaGreatDoor

/- The laws' Pairs: what a range over pairs of numbers tells. Own work; no statement. -/
set_option linter.unusedSimpArgs false
set_option linter.unusedVariables false
namespace Go.Proofs.YtncmocmmkbmmjaaGreatDoor
open Go.RowKit Go.Shelf

attribute [local go_sem] Oper.semAt_some
end Go.Proofs.YtncmocmmkbmmjaaGreatDoor

/- The laws' known(): two vectors, joined, met, in words: it answers true in whatever world that has the library's table of powers of ten. Own work; no statement. -/
set_option linter.unusedSimpArgs false
set_option linter.unusedVariables false
namespace Go.Proofs.YtncmocmmkbmmjaaGreatDoor
open Go.RowKit Go.Shelf

theorem itoa_digit (n : Int) (h0 : 0 ≤ n) (h1 : n < 10) : Lib.itoa n = [UInt8.ofNat (48 + n.toNat)] := by
  unfold Lib.itoa
  rw [if_neg (by omega), Lib.decDigits, dif_pos (by omega)]

theorem kJoin : bySiteL max [3, 0, 2] [1, 5] = [3, 5, 2] := by decide
theorem kMeet : bySiteL min [3, 0, 2] [1, 5] = [1, 0, 0] := by decide
theorem kText1 : textL [3, 5, 2] = [91, 51, 32, 53, 32, 50, 93] := by
  have : writtenL [3, 5, 2] = 3 := by decide
  simp [textL, this, numsTo, itoa_digit]
theorem kText2 : textL [1, 0, 0] = [91, 49, 93] := by
  have : writtenL [1, 0, 0] = 1 := by decide
  simp [textL, this, numsTo, itoa_digit]
theorem kText3 : textL [] = [91, 93] := by decide
theorem kWith : withL [1, 5] 3 7 = [1, 5, 0, 7] := by decide
theorem kText4 : textL [1, 5, 0, 7] = [91, 49, 32, 53, 32, 48, 32, 55, 93] := by
  have : writtenL [1, 5, 0, 7] = 4 := by decide
  simp [textL, this, numsTo, itoa_digit]
theorem kParse1 : parseL [91, 51, 32, 48, 32, 50, 93] = ([3, 0, 2], 0) := by decide +kernel
theorem kParse2 : parseL [91, 51, 32, 48, 93] = ([], 2) := by decide +kernel
theorem kPairs1 : (pairsTo [3, 0, 2] ([3, 0, 2] : List Int).length).map (·.1) = [0, 2] := by decide
theorem kPairs2 : (pairsTo [3, 0, 2] ([3, 0, 2] : List Int).length).map (·.2) = [3, 2] := by decide
theorem kSame : everyB eqB [3, 0, 2] [3, 0, 2] = true := by decide
theorem kCov1 : everyB covB [3, 5, 2] [3, 0, 2] = true := by decide
theorem kCov2 : everyB covB [3, 0, 2] [1, 5] = false := by decide
theorem kGet : geti [3, 0, 2] 9 = 0 := by decide
theorem kSum : ([3, 0, 2] : List Int).sum = 5 := by decide
theorem kCheck1 : checkL [3, 0, 2] 2 = 4 := by decide
theorem kCheck2 : checkL [3, 0, 2] 3 = 0 := by decide

theorem alloc_below (w : World) (o : Obj) : Below w.heap.size w (w.alloc o) := (Below.refl _ w).alloc (Nat.le_refl _) o
theorem lit_nums (w : World) (x y : Int) : IsNums .i64 (w.alloc (.cells #[.int .i64 x, .int .i64 y] 3)) (.slice (some ⟨w.heap.size, 0, none⟩) 2 2) [x, y] :=
  IsNums.of_row (base := 0) (World.ownsRow_lit (e := 3) (size := 1) w #[.int .i64 x, .int .i64 y] 2 (Nat.zero_le _) (by unfold maxLen; omega) rfl)

theorem small_inR {l : List Int} (h : ∀ x ∈ l, 0 ≤ x ∧ x ≤ 1048577) : InR l := fun x hx => by have := h x hx; omega

end Go.Proofs.YtncmocmmkbmmjaaGreatDoor

/- Plain laws on vectors as lists of numbers. Own work; no statement. -/
set_option linter.unusedSimpArgs false
set_option linter.unusedVariables false
namespace Go.Proofs.YtncmocmmkbmmjaaGreatDoor

theorem getD_out (l : List Int) (i : Nat) (h : l.length ≤ i) : l.getD i 0 = 0 := by
  rw [List.getD, List.getElem?_eq_none h]; rfl
theorem getD_in (l : List Int) (i : Nat) (h : i < l.length) : l.getD i 0 = l[i] := by
  rw [List.getD, List.getElem?_eq_getElem h]; rfl
theorem getD_mem (l : List Int) (i : Nat) (h : i < l.length) : l.getD i 0 ∈ l := by rw [getD_in l i h]; exact List.getElem_mem h

theorem every_iff {f : Int → Int → Bool} (h0 : f 0 0 = true) (a b : List Int) : everyB f a b = true ↔ ∀ i, f (a.getD i 0) (b.getD i 0) = true := by
  constructor
  · intro h i
    unfold everyB at h
    rw [List.all_eq_true] at h
    by_cases hi : i < max a.length b.length
    · exact h i (by simpa using hi)
    · rw [getD_out a i (by omega), getD_out b i (by omega)]; exact h0
  · intro h
    exact everyB_yes f a b (fun i _ => h i)
theorem cov_iff (a b : List Int) : everyB covB a b = true ↔ ∀ i, b.getD i 0 ≤ a.getD i 0 := by
  rw [every_iff (by decide)]; simp only [covB, decide_eq_true_eq]
theorem same_iff (a b : List Int) : everyB eqB a b = true ↔ ∀ i, a.getD i 0 = b.getD i 0 := by
  rw [every_iff (by decide)]; simp only [eqB, beq_iff_eq]
theorem site_get {f : Int → Int → Int} (h0 : f 0 0 = 0) (a b : List Int) (i : Nat) : (bySiteL f a b).getD i 0 = f (a.getD i 0) (b.getD i 0) := by
  by_cases hi : i < max a.length b.length
  · rw [getD_in _ i (by rw [bySiteL_length]; exact hi)]; simp [bySiteL]
  · rw [getD_out _ i (by rw [bySiteL_length]; omega), getD_out a i (by omega), getD_out b i (by omega), h0]
theorem join_get (a b : List Int) (i : Nat) : (bySiteL max a b).getD i 0 = max (a.getD i 0) (b.getD i 0) := site_get (by decide) a b i
theorem meet_get (a b : List Int) (i : Nat) : (bySiteL min a b).getD i 0 = min (a.getD i 0) (b.getD i 0) := site_get (by decide) a b i

theorem cov_join_l (x y : List Int) : everyB covB (bySiteL max x y) x = true := by rw [cov_iff]; intro i; rw [join_get]; omega
theorem cov_join_r (x y : List Int) : everyB covB (bySiteL max x y) y = true := by rw [cov_iff]; intro i; rw [join_get]; omega
theorem cov_meet_l (x y : List Int) : everyB covB x (bySiteL min x y) = true := by rw [cov_iff]; intro i; rw [meet_get]; omega
theorem cov_meet_r (x y : List Int) : everyB covB y (bySiteL min x y) = true := by rw [cov_iff]; intro i; rw [meet_get]; omega
theorem cov_lub {x y z : List Int} (h1 : everyB covB z x = true) (h2 : everyB covB z y = true) : everyB covB z (bySiteL max x y) = true := by
  rw [cov_iff] at *; intro i; rw [join_get]; have := h1 i; have := h2 i; omega
theorem cov_glb {x y z : List Int} (h1 : everyB covB x z = true) (h2 : everyB covB y z = true) : everyB covB (bySiteL min x y) z = true := by
  rw [cov_iff] at *; intro i; rw [meet_get]; have := h1 i; have := h2 i; omega
theorem join_assoc (x y z : List Int) : everyB eqB (bySiteL max x (bySiteL max y z)) (bySiteL max (bySiteL max x y) z) = true := by
  rw [same_iff]; intro i; rw [join_get, join_get, join_get, join_get]; omega
theorem same_cov (x y : List Int) : everyB eqB x y = (everyB covB x y && everyB covB y x) := by
  rw [Bool.eq_iff_iff, Bool.and_eq_true, same_iff, cov_iff, cov_iff]
  constructor
  · intro h; exact ⟨fun i => by have := h i; omega, fun i => by have := h i; omega⟩
  · intro h i; have := h.1 i; have := h.2 i; omega

/-- The first n numbers together. -/
def sumTo (f : Nat → Int) : Nat → Int
  | 0 => 0
  | n + 1 => sumTo f n + f n
theorem sumTo_congr {f g : Nat → Int} (h : ∀ i, f i = g i) : ∀ n, sumTo f n = sumTo g n
  | 0 => rfl
  | n + 1 => by simp only [sumTo]; rw [sumTo_congr h n, h n]
theorem sumTo_add (f g : Nat → Int) : ∀ n, sumTo f n + sumTo g n = sumTo (fun i => f i + g i) n
  | 0 => rfl
  | n + 1 => by simp only [sumTo]; rw [← sumTo_add f g n]; omega
theorem sumTo_take (l : List Int) : ∀ n, n ≤ l.length → sumTo (fun i => l.getD i 0) n = (l.take n).sum
  | 0, _ => by simp [sumTo]
  | n + 1, h => by
    rw [take_snoc_getD l n (by omega), List.sum_append, ← sumTo_take l n (by omega)]
    simp [sumTo]
theorem sumTo_more (l : List Int) (k : Nat) : sumTo (fun i => l.getD i 0) (l.length + k) = l.sum := by
  induction k with
  | zero => rw [Nat.add_zero, sumTo_take l _ (Nat.le_refl _), List.take_of_length_le (Nat.le_refl _)]
  | succ k ih => rw [← Nat.add_assoc, sumTo, ih, getD_out l _ (by omega)]; omega
theorem sum_eq (l : List Int) (n : Nat) (h : l.length ≤ n) : l.sum = sumTo (fun i => l.getD i 0) n := by
  have := sumTo_more l (n - l.length)
  rw [← this]
  congr 1
  omega
theorem sum_join_meet (x y : List Int) : (bySiteL max x y).sum + (bySiteL min x y).sum = x.sum + y.sum := by
  have n := max x.length y.length
  rw [sum_eq (bySiteL max x y) (max x.length y.length) (by rw [bySiteL_length]; exact Nat.le_refl _), sum_eq (bySiteL min x y) (max x.length y.length) (by rw [bySiteL_length]; exact Nat.le_refl _),
    sum_eq x (max x.length y.length) (by omega), sum_eq y (max x.length y.length) (by omega), sumTo_add, sumTo_add]
  exact sumTo_congr (fun i => by rw [join_get, meet_get]; omega) _

/-- All numbers between 0 and m. -/
def InB (m : Int) (l : List Int) : Prop := ∀ x ∈ l, 0 ≤ x ∧ x ≤ m
theorem InB.get {m : Int} {l : List Int} (h : InB m l) (hm : 0 ≤ m) (i : Nat) : 0 ≤ l.getD i 0 ∧ l.getD i 0 ≤ m := by
  by_cases hi : i < l.length
  · exact h _ (getD_mem l i hi)
  · rw [getD_out l i (by omega)]; exact ⟨Int.le_refl _, hm⟩
theorem InB.site {m : Int} {f : Int → Int → Int} (hf : ∀ a b, 0 ≤ a ∧ a ≤ m → 0 ≤ b ∧ b ≤ m → 0 ≤ f a b ∧ f a b ≤ m) {a b : List Int} (ha : InB m a) (hb : InB m b) (hm : 0 ≤ m) : InB m (bySiteL f a b) := by
  intro x hx
  simp only [bySiteL, List.mem_map] at hx
  obtain ⟨i, _, rfl⟩ := hx
  exact hf _ _ (ha.get hm i) (hb.get hm i)
theorem InB.join {m : Int} {a b : List Int} (ha : InB m a) (hb : InB m b) (hm : 0 ≤ m) : InB m (bySiteL max a b) := ha.site (fun x y h1 h2 => by omega) hb hm
theorem InB.meet {m : Int} {a b : List Int} (ha : InB m a) (hb : InB m b) (hm : 0 ≤ m) : InB m (bySiteL min a b) := ha.site (fun x y h1 h2 => by omega) hb hm
theorem InB.mono {m m' : Int} {l : List Int} (h : InB m l) (hm : m ≤ m') : InB m' l := fun x hx => by have := h x hx; omega
theorem InB.sum {m : Int} {l : List Int} (h : InB m l) : 0 ≤ l.sum ∧ l.sum ≤ m * l.length := by
  induction l with
  | nil => simp
  | cons x l ih =>
    have h1 := h x (by simp)
    have h2 := ih (fun y hy => h y (by simp [hy]))
    rw [List.sum_cons, List.length_cons, Int.natCast_add, Int.mul_add]
    omega

end Go.Proofs.YtncmocmmkbmmjaaGreatDoor

/- Plain laws on vectors in words: what is told is read again. Own work; no statement. -/
set_option linter.unusedSimpArgs false
set_option linter.unusedVariables false
namespace Go.Proofs.YtncmocmmkbmmjaaGreatDoor

theorem digit_val (d : Nat) (h : d < 10) : (UInt8.ofNat (48 + d)).toNat = 48 + d := by
  rw [UInt8.toNat_ofNat']; omega
theorem decDigits_all (u : Nat) : ∀ c ∈ Lib.decDigits u, digB c = true := by
  induction u using Nat.strongRecOn with
  | _ u ih =>
    rw [Lib.decDigits]
    split
    · intro c hc
      rw [List.mem_singleton] at hc
      subst hc
      unfold digB
      rw [digit_val u (by omega)]
      simp; omega
    · intro c hc
      rcases List.mem_append.1 hc with h | h
      · exact ih (u / 10) (by omega) c h
      · rw [List.mem_singleton] at h
        subst h
        unfold digB
        rw [digit_val (u % 10) (by omega)]
        simp; omega
theorem decDigits_ne (u : Nat) : Lib.decDigits u ≠ [] := by
  rw [Lib.decDigits]; split <;> simp
theorem decDigits_head (u : Nat) : u ≠ 0 → (Lib.decDigits u).head? ≠ some 48 := by
  induction u using Nat.strongRecOn with
  | _ u ih =>
    intro h0
    rw [Lib.decDigits]
    split
    · rename_i h
      intro e
      have e2 : UInt8.ofNat (48 + u) = 48 := by simpa using e
      have e3 := congrArg UInt8.toNat e2
      rw [digit_val u h] at e3
      have e4 : (48 : UInt8).toNat = 48 := rfl
      omega
    · have h1 := ih (u / 10) (by omega) (by omega)
      cases h : Lib.decDigits (u / 10) with
      | nil => exact absurd h (decDigits_ne _)
      | cons c r => rw [h] at h1; exact h1
theorem decOk_digits (u : Nat) : decOk (Lib.decDigits u) = true := by
  unfold decOk
  have h1 : (Lib.decDigits u).isEmpty = false := by
    cases h : Lib.decDigits u with
    | nil => exact absurd h (decDigits_ne u)
    | cons _ _ => rfl
  have h2 : (Lib.decDigits u).all digB = true := List.all_eq_true.2 (decDigits_all u)
  rw [h1, h2]
  by_cases h0 : u = 0
  · subst h0
    have : Lib.decDigits 0 = [48] := by rw [Lib.decDigits]; rfl
    rw [this]; rfl
  · have := decDigits_head u h0
    have h3 : ((Lib.decDigits u).head? == some 48) = false := by simpa using this
    rw [h3]; simp
theorem decTo_digits (u : Nat) : decTo (Lib.decDigits u) 0 = min (u : Int) 1048577 := by
  induction u using Nat.strongRecOn with
  | _ u ih =>
    rw [Lib.decDigits]
    split
    · rename_i h
      simp only [decTo]
      rw [digit_val u h]
      omega
    · rw [decTo_snoc, ih (u / 10) (by omega), digit_val (u % 10) (by omega)]
      omega
theorem itoa_nat (x : Int) (h : 0 ≤ x) : Lib.itoa x = Lib.decDigits x.toNat := by unfold Lib.itoa; rw [if_neg (by omega)]
theorem no_blank (u : Nat) : ∀ c ∈ Lib.decDigits u, c ≠ 32 := by
  intro c hc e
  have := decDigits_all u c hc
  subst e
  revert this
  decide

theorem splitL_word : ∀ (l : List UInt8), (∀ c ∈ l, c ≠ 32) → splitL l = [l]
  | [], _ => rfl
  | c :: r, h => by
    simp only [splitL]
    rw [if_neg (h c (by simp)), splitL_word r (fun d hd => h d (by simp [hd]))]
theorem splitL_append : ∀ (a b : List UInt8), splitL (a ++ 32 :: b) = splitL a ++ splitL b
  | [], b => by simp [splitL]
  | c :: r, b => by
    simp only [List.cons_append, splitL]
    rw [splitL_append r b]
    split
    · simp
    · cases h : splitL r with
      | nil => exact absurd h (splitL_ne r)
      | cons x xs => simp

/-- The numbers are such as a vector may have. -/
def InS (l : List Int) : Prop := ∀ x ∈ l, 0 ≤ x ∧ x ≤ 1048576
theorem getD_inS {l : List Int} (h : InS l) (k : Nat) : 0 ≤ l.getD k 0 ∧ l.getD k 0 ≤ 1048576 := by
  by_cases hk : k < l.length
  · exact h _ (getD_mem l k hk)
  · rw [getD_out l k (by omega)]; omega
def wordsTo (l : List Int) (k : Nat) : List (List UInt8) := (List.range k).map fun i => Lib.itoa (l.getD i 0)
theorem wordsTo_succ (l : List Int) (k : Nat) : wordsTo l (k + 1) = wordsTo l k ++ [Lib.itoa (l.getD k 0)] := by simp [wordsTo, List.range_succ]
theorem split_nums {l : List Int} (h : InS l) : ∀ k, splitL (numsTo l (k + 1)) = wordsTo l (k + 1)
  | 0 => by
    simp only [numsTo]
    rw [itoa_nat _ (getD_inS h 0).1]
    simp only [if_true, List.nil_append]
    rw [splitL_word _ (no_blank _), wordsTo_succ, itoa_nat _ (getD_inS h 0).1]
    rfl
  | k + 1 => by
    rw [numsTo, if_neg (by omega)]
    simp only [List.cons_append, List.nil_append]
    rw [splitL_append, split_nums h k, wordsTo_succ l (k + 1), itoa_nat _ (getD_inS h (k + 1)).1, splitL_word _ (no_blank _)]
theorem words_ok {l : List Int} (h : InS l) (k : Nat) : (wordsTo l k).all decOk = true := by
  rw [List.all_eq_true]
  intro x hx
  obtain ⟨i, -, rfl⟩ := List.mem_map.1 hx
  rw [itoa_nat _ (getD_inS h i).1]
  exact decOk_digits _
theorem dec_itoa {x : Int} (h0 : 0 ≤ x) (h1 : x ≤ 1048577) : decTo (Lib.itoa x) 0 = x := by
  rw [itoa_nat _ h0, decTo_digits]; omega
theorem st_words {l : List Int} (h : InS l) (h8 : l.length ≤ 8) : ∀ k, k < l.length → stOf (wordsTo l (k + 1)) = (l.take (k + 1), l.getD k 0, false)
  | 0, hk => by
    have hx := getD_inS h 0
    rw [wordsTo_succ, stOf_snoc, take_snoc_getD l 0 hk]
    simp only [wordsTo, List.range_zero, List.map_nil, stOf, List.foldl_nil, stepW, dec_itoa hx.1 (by omega : l.getD 0 0 ≤ 1048577)]
    rw [if_neg (by rintro (h | h); · omega
                   · simp at h)]
    simp
  | k + 1, hk => by
    have hx := getD_inS h (k + 1)
    rw [wordsTo_succ, stOf_snoc, st_words h h8 k (by omega), take_snoc_getD l (k + 1) hk]
    simp only [stepW, dec_itoa hx.1 (by omega : l.getD (k + 1) 0 ≤ 1048577)]
    rw [if_neg (by rw [List.length_take]; omega)]

theorem writtenL_last (l : List Int) : ∀ k, writtenL l = k + 1 → l.getD k 0 ≠ 0 := by
  obtain ⟨r, rfl⟩ : ∃ r : List Int, l = r.reverse := ⟨l.reverse, by simp⟩
  induction r with
  | nil => intro k h; simp [writtenL] at h
  | cons x r ih =>
    intro k h
    rw [List.reverse_cons] at h ⊢
    generalize r.reverse = l at ih h ⊢
    by_cases hx : x = 0
    · subst hx
      rw [writtenL_snoc_zero] at h
      have hl := writtenL_le l
      have := ih k h
      rw [List.getD, List.getElem?_append_left (by omega)]
      exact this
    · rw [writtenL_snoc l x hx] at h
      obtain rfl : k = l.length := by omega
      rw [List.getD, List.getElem?_append_right (Nat.le_refl _)]
      simpa using hx
theorem writtenL_past (l : List Int) : ∀ i, writtenL l ≤ i → l.getD i 0 = 0 := by
  obtain ⟨r, rfl⟩ : ∃ r : List Int, l = r.reverse := ⟨l.reverse, by simp⟩
  induction r with
  | nil => intro i _; exact getD_out [] i (by simp)
  | cons x r ih =>
    intro i h
    rw [List.reverse_cons] at h ⊢
    generalize r.reverse = l at ih h ⊢
    by_cases hx : x = 0
    · subst hx
      rw [writtenL_snoc_zero] at h
      by_cases hi : i < l.length
      · rw [List.getD, List.getElem?_append_left hi]; exact ih i h
      · rw [List.getD, List.getElem?_append_right (by omega)]
        by_cases h2 : i - l.length = 0
        · rw [h2]; rfl
        · rw [List.getElem?_eq_none (by simp; omega)]; rfl
    · rw [writtenL_snoc l x hx] at h
      exact getD_out _ i (by simp; omega)

theorem inner_text (x : List UInt8) : bracketB (91 :: (x ++ [93])) = true ∧ innerL (91 :: (x ++ [93])) = x := by
  have h1 : Lib.hasPrefix (91 :: (x ++ [93])) [91] = true := by simp [Lib.hasPrefix]
  have h2 : Lib.trimPrefix (91 :: (x ++ [93])) [91] = x ++ [93] := by unfold Lib.trimPrefix; rw [if_pos h1]; rfl
  have h3 : Lib.hasSuffix (x ++ [93]) [93] = true := by unfold Lib.hasSuffix; rw [List.isSuffixOf_iff_suffix]; exact List.suffix_append _ _
  refine ⟨by unfold bracketB; rw [h1, h2, h3]; rfl, ?_⟩
  unfold innerL
  rw [h2]
  unfold Lib.trimSuffix
  rw [if_pos h3]
  simp
theorem numsTo_ne (l : List Int) (h : InS l) (k : Nat) : numsTo l (k + 1) ≠ [] := by
  rw [numsTo, itoa_nat _ (getD_inS h k).1]
  intro e
  have := (List.append_eq_nil_iff.1 (List.append_eq_nil_iff.1 e).2).2
  exact decDigits_ne _ this
/-- What is told of a vector that may be is read again, down to its last number that is not 0. -/
theorem parse_text (l : List Int) (h : InS l) (h8 : l.length ≤ 8) : parseL (textL l) = (l.take (writtenL l), 0) := by
  obtain ⟨hb, hi⟩ := inner_text (numsTo l (writtenL l))
  have hle := writtenL_le l
  have hlast := writtenL_last l
  unfold parseL textL
  rw [hb, hi, if_pos rfl]
  cases hw : writtenL l with
  | zero => simp [numsTo]
  | succ k =>
    rw [if_neg (numsTo_ne l h k), split_nums h k]
    unfold parseN
    rw [words_ok h, if_pos rfl, st_words h h8 k (by omega)]
    rw [if_neg (hlast k hw), if_neg (by simp)]
theorem same_written (l : List Int) : everyB eqB l (l.take (writtenL l)) = true := by
  rw [same_iff]
  intro i
  by_cases hi : i < writtenL l
  · rw [List.getD, List.getD, List.getElem?_take, if_pos hi]
  · rw [writtenL_past l i (by omega), getD_out _ i (by rw [List.length_take]; omega)]
theorem check_ok (l : List Int) (h : InS l) (h8 : l.length ≤ 8) : checkL l 8 = 0 := by
  unfold checkL
  rw [if_neg (by omega), if_neg (by omega)]
  clear h8
  induction l with
  | nil => rfl
  | cons x r ih =>
    have := h x (by simp)
    simp only [checkN]
    rw [if_neg (by omega), if_neg (by omega)]
    exact ih (fun y hy => h y (by simp [hy]))
theorem inS_take (l : List Int) (h : InS l) (k : Nat) : InS (l.take k) := fun x hx => h x (List.mem_of_mem_take hx)

end Go.Proofs.YtncmocmmkbmmjaaGreatDoor

/- Plain laws on texts: what is read is told just so. Own work; no statement. -/
set_option linter.unusedSimpArgs false
set_option linter.unusedVariables false
namespace Go.Proofs.YtncmocmmkbmmjaaGreatDoor

/-- Digits' number, however great. -/
def valTo : List UInt8 → Int → Int
  | [], n => n
  | c :: r, n => valTo r (10 * n + ((c.toNat : Int) - 48))
theorem valTo_snoc : ∀ (l : List UInt8) (c : UInt8) (n : Int), valTo (l ++ [c]) n = 10 * valTo l n + ((c.toNat : Int) - 48)
  | [], _, _ => rfl
  | _ :: l, c, _ => valTo_snoc l c _
theorem dig_range {c : UInt8} (h : digB c = true) : 48 ≤ (c.toNat : Int) ∧ (c.toNat : Int) ≤ 57 := by
  simp only [digB, decide_eq_true_eq] at h
  omega
theorem valTo_ge : ∀ (l : List UInt8) (n : Int), (∀ c ∈ l, digB c = true) → 0 ≤ n → n ≤ valTo l n
  | [], n, _, _ => Int.le_refl _
  | c :: l, n, h, h0 => by
    have hc := dig_range (h c (by simp))
    have := valTo_ge l (10 * n + ((c.toNat : Int) - 48)) (fun d hd => h d (by simp [hd])) (by omega)
    simp only [valTo]
    omega
theorem valTo_app (a b : List UInt8) (n : Int) : valTo (a ++ b) n = valTo b (valTo a n) := by
  induction a generalizing n with
  | nil => rfl
  | cons c a ih => exact ih _
theorem decTo_val : ∀ (l : List UInt8) (n : Int), (∀ c ∈ l, digB c = true) → 0 ≤ n → decTo l (min n 1048577) = min (valTo l n) 1048577
  | [], n, _, _ => rfl
  | c :: l, n, h, h0 => by
    have hc := dig_range (h c (by simp))
    simp only [decTo, valTo]
    rw [← decTo_val l _ (fun d hd => h d (by simp [hd])) (by omega)]
    congr 1
    omega
theorem decOk_parts {l : List UInt8} (h : decOk l = true) : l ≠ [] ∧ (1 < l.length → l.head? ≠ some 48) ∧ ∀ c ∈ l, digB c = true := by
  unfold decOk at h
  simp only [Bool.and_eq_true, Bool.not_eq_true', List.all_eq_true] at h
  obtain ⟨⟨h1, h2⟩, h3⟩ := h
  refine ⟨by rintro rfl; simp at h1, fun hl e => ?_, h3⟩
  rw [e] at h2
  simp [hl] at h2
theorem decTo_ok {l : List UInt8} (h : decOk l = true) : decTo l 0 = min (valTo l 0) 1048577 := decTo_val l 0 (decOk_parts h).2.2 (Int.le_refl _)
theorem byte_digit (c : UInt8) (h : digB c = true) (d : Nat) (hd : ((c.toNat : Int) - 48) = d) : UInt8.ofNat (48 + d) = c := by
  have hc := dig_range h
  rw [show 48 + d = c.toNat by omega]
  simp
theorem digits_val (r : List UInt8) : decOk r.reverse = true → Lib.decDigits (valTo r.reverse 0).toNat = r.reverse := by
  induction r with
  | nil => intro h; exact absurd rfl (decOk_parts h).1
  | cons c r ih =>
    intro h
    rw [List.reverse_cons] at h ⊢
    obtain ⟨-, h2, h3⟩ := decOk_parts h
    have hc := h3 c (by simp)
    have hcr := dig_range hc
    obtain ⟨d, hd⟩ : ∃ d : Nat, ((c.toNat : Int) - 48) = d := ⟨((c.toNat : Int) - 48).toNat, by omega⟩
    have hb := byte_digit c hc d hd
    generalize r.reverse = y at *
    rw [valTo_snoc, hd]
    cases y with
    | nil =>
      simp only [valTo]
      rw [show (10 * (0 : Int) + (d : Int)).toNat = d by omega, Lib.decDigits, dif_pos (by omega), hb]
      rfl
    | cons x y =>
      have hx : x ≠ 48 := by
        intro e
        exact h2 (by simp) (by simp [e])
      have hxd := dig_range (h3 x (by simp))
      have hx1 : 1 ≤ (x.toNat : Int) - 48 := by
        have : x.toNat ≠ 48 := fun e => hx (UInt8.toNat_inj.1 e)
        omega
      have hy3 : ∀ c ∈ y, digB c = true := fun e he => h3 e (by simp [he])
      have hge := valTo_ge y (10 * 0 + ((x.toNat : Int) - 48)) hy3 (by omega)
      have hok : decOk (x :: y) = true := by
        unfold decOk
        have hall : (x :: y).all digB = true := List.all_eq_true.2 (fun e he => h3 e (List.mem_append_left _ he))
        rw [hall]
        have : ((x :: y).head? == some 48) = false := by simpa using hx
        rw [this]
        simp
      have hv := ih hok
      have e0 : valTo (x :: y) 0 = valTo y (10 * 0 + ((x.toNat : Int) - 48)) := rfl
      rw [← e0] at hge
      generalize valTo (x :: y) 0 = v at *
      obtain ⟨u, rfl⟩ := Int.eq_ofNat_of_zero_le (show 0 ≤ v by omega)
      rw [Int.toNat_natCast] at hv
      rw [show (10 * (u : Int) + (d : Int)).toNat = 10 * u + d by omega, Lib.decDigits, dif_neg (by omega), show (10 * u + d) / 10 = u by omega, show (10 * u + d) % 10 = d by omega, hv, hb]
theorem itoa_dec {x : List UInt8} (h : decOk x = true) (h1 : decTo x 0 ≤ 1048576) : Lib.itoa (decTo x 0) = x := by
  have e := decTo_ok h
  have h0 := valTo_ge x 0 (decOk_parts h).2.2 (Int.le_refl _)
  have e2 : decTo x 0 = valTo x 0 := by omega
  rw [e2, itoa_nat _ h0]
  have := digits_val x.reverse (by rw [List.reverse_reverse]; exact h)
  rwa [List.reverse_reverse] at this
theorem dec_nonneg {x : List UInt8} (h : decOk x = true) : 0 ≤ decTo x 0 := by
  have e := decTo_ok h
  have h0 := valTo_ge x 0 (decOk_parts h).2.2 (Int.le_refl _)
  omega
theorem dec_zero {x : List UInt8} (h : decOk x = true) : decTo x 0 = 0 ↔ x = [48] := by
  constructor
  · intro h0
    have := itoa_dec h (by omega)
    rw [h0] at this
    rw [← this, itoa_digit 0 (by omega) (by omega)]
    rfl
  · rintro rfl
    rfl

def joinW : List (List UInt8) → List UInt8
  | [] => []
  | [x] => x
  | x :: y :: r => x ++ 32 :: joinW (y :: r)
theorem join_split : ∀ (s : List UInt8), joinW (splitL s) = s
  | [] => rfl
  | c :: r => by
    have ih := join_split r
    simp only [splitL]
    split
    · rename_i h
      cases hr : splitL r with
      | nil => exact absurd hr (splitL_ne r)
      | cons y ys => rw [hr] at ih; rw [joinW, ih, h]; rfl
    · cases hr : splitL r with
      | nil => exact absurd hr (splitL_ne r)
      | cons y ys =>
        rw [hr] at ih
        cases ys with
        | nil => simp only [joinW] at ih ⊢; rw [ih]
        | cons z zs => simp only [joinW] at ih ⊢; rw [← ih]; rfl
theorem splitL_inj {a b : List UInt8} (h : splitL a = splitL b) : a = b := by rw [← join_split a, ← join_split b, h]

theorem st_len (r : List (List UInt8)) : (stOf r.reverse).1.length ≤ r.length := by
  induction r with
  | nil => exact Nat.le_refl _
  | cons x r ih =>
    rw [List.reverse_cons, stOf_snoc]
    unfold stepW
    split
    · simp; omega
    · simp; omega
theorem st_good (r : List (List UInt8)) : (stOf r.reverse).2.2 = false → (stOf r.reverse).1 = r.reverse.map (decTo · 0) ∧ r.length ≤ 8 ∧ ∀ x ∈ r, decTo x 0 ≤ 1048576 := by
  induction r with
  | nil => intro _; exact ⟨rfl, by simp, fun x hx => by cases hx⟩
  | cons x r ih =>
    rw [List.reverse_cons, stOf_snoc]
    unfold stepW
    split
    · intro h; cases h
    · rename_i hc
      intro h
      obtain ⟨h1, h2, h3⟩ := ih h
      have hl : r.length = (stOf r.reverse).1.length := by rw [h1]; simp
      have h8 := stOf_len r.reverse
      refine ⟨by simp only; rw [h1, List.map_append]; rfl, by simp only [List.length_cons]; omega, fun y hy => ?_⟩
      rcases List.mem_cons.1 hy with rfl | hy
      · omega
      · exact h3 y hy
theorem st_bad (r : List (List UInt8)) : (stOf r.reverse).2.2 = true → 8 < r.length ∨ ∃ x ∈ r, 1048576 < decTo x 0 := by
  induction r with
  | nil => intro h; cases h
  | cons x r ih =>
    rw [List.reverse_cons, stOf_snoc]
    unfold stepW
    split
    · rename_i hc
      intro _
      rcases hc with hc | hc
      · exact .inr ⟨x, by simp, hc⟩
      · have := st_len r
        exact .inl (by simp only [List.length_cons]; omega)
    · intro h
      rcases ih h with h | ⟨y, hy, h⟩
      · exact .inl (by simp only [List.length_cons]; omega)
      · exact .inr ⟨y, by simp [hy], h⟩
theorem st_last (ws : List (List UInt8)) (x : List UInt8) : (stOf (ws ++ [x])).2.1 = decTo x 0 := by
  rw [stOf_snoc]
  unfold stepW
  split <;> rfl

/-- Words read one after the other, as the reference reads them. -/
def refN (ws : List (List UInt8)) : List Int × Int :=
  if ws.all decOk then (if ws.getLast? = some [48] then ([], 2) else if 8 < ws.length then ([], 4) else if ws.all (fun x => decide (decTo x 0 ≤ 1048576)) then (ws.map (decTo · 0), 0) else ([], 4)) else ([], 2)
theorem parseN_ref (ws : List (List UInt8)) (hne : ws ≠ []) : parseN ws = refN ws := by
  unfold parseN refN
  cases hall : ws.all decOk with
  | false => simp
  | true =>
    rw [if_pos rfl, if_pos rfl]
    obtain ⟨r, rfl⟩ : ∃ r, ws = r.reverse := ⟨ws.reverse, by simp⟩
    cases r with
    | nil => exact absurd rfl hne
    | cons x r =>
      have hx : decOk x = true := List.all_eq_true.1 hall x (by simp)
      have hlast : (stOf (x :: r).reverse).2.1 = decTo x 0 := by rw [List.reverse_cons]; exact st_last _ x
      have hgl : (x :: r).reverse.getLast? = some x := by simp
      rw [hlast, hgl]
      by_cases h0 : decTo x 0 = 0
      · rw [if_pos h0, if_pos (by rw [(dec_zero hx).1 h0])]
      · have hng : ¬ (some x = some [48]) := fun e => h0 ((dec_zero hx).2 (Option.some.inj e))
        rw [if_neg h0, if_neg hng]
        cases hlong : (stOf (x :: r).reverse).2.2 with
        | false =>
          obtain ⟨h1, h2, h3⟩ := st_good (x :: r) hlong
          rw [if_neg (show ¬ (false = true) by simp), if_neg (show ¬ (8 < (x :: r).reverse.length) by rw [List.length_reverse]; omega), if_pos (List.all_eq_true.2 (fun y hy => decide_eq_true (h3 y (List.mem_reverse.1 hy)))), h1]
        | true =>
          rw [if_pos (show true = true from rfl)]
          by_cases h8 : 8 < (x :: r).reverse.length
          · rw [if_pos h8]
          · rw [if_neg h8]
            rcases st_bad (x :: r) hlong with h | ⟨y, hy, h⟩
            · rw [List.length_reverse] at h8; exact absurd h h8
            · rw [if_neg]
              intro e
              have := of_decide_eq_true (List.all_eq_true.1 e y (List.mem_reverse.2 hy))
              omega

theorem writtenL_full (l : List Int) (k : Nat) (hl : l.length = k + 1) (h : l.getD k 0 ≠ 0) : writtenL l = k + 1 := by
  have e : l = l.take k ++ [l.getD k 0] := by rw [← take_snoc_getD l k (by omega), List.take_of_length_le (by omega)]
  rw [e, writtenL_snoc _ _ h, List.length_take]
  omega
theorem bracket_form {s : List UInt8} (h : bracketB s = true) : s = 91 :: (innerL s ++ [93]) := by
  unfold bracketB at h
  rw [Bool.and_eq_true] at h
  obtain ⟨h1, h2⟩ := h
  obtain ⟨t, rfl⟩ : ∃ t, s = 91 :: t := by
    unfold Lib.hasPrefix at h1
    rw [List.isPrefixOf_iff_prefix] at h1
    obtain ⟨t, ht⟩ := h1
    exact ⟨t, ht.symm⟩
  have e1 : Lib.trimPrefix (91 :: t) [91] = t := by unfold Lib.trimPrefix; rw [if_pos h1]; rfl
  rw [e1] at h2
  have h2' := h2
  unfold Lib.hasSuffix at h2
  rw [List.isSuffixOf_iff_suffix] at h2
  obtain ⟨u, rfl⟩ := h2
  exact (congrArg (fun z => (91 : UInt8) :: (z ++ [93])) (inner_text u).2).symm
/-- What is a vector is told just so. -/
theorem text_parse {s : List UInt8} (h : (parseL s).2 = 0) : textL (parseL s).1 = s := by
  unfold parseL at h ⊢
  by_cases hb : bracketB s = true
  · rw [if_pos hb] at h ⊢
    have hs := bracket_form hb
    by_cases hi : innerL s = []
    · rw [if_pos hi]
      rw [hi] at hs
      rw [hs]
      rfl
    · rw [if_neg hi] at h ⊢
      rw [parseN_ref _ (splitL_ne _)] at h ⊢
      obtain ⟨ws, hws⟩ : ∃ ws, splitL (innerL s) = ws := ⟨_, rfl⟩
      rw [hws] at h ⊢
      have hne : ws ≠ [] := by rw [← hws]; exact splitL_ne _
      unfold refN at h ⊢
      by_cases hall : ws.all decOk = true
      · rw [if_pos hall] at h ⊢
        by_cases hl : ws.getLast? = some [48]
        · rw [if_pos hl] at h; cases h
        · rw [if_neg hl] at h ⊢
          by_cases h8 : 8 < ws.length
          · rw [if_pos h8] at h; cases h
          · rw [if_neg h8] at h ⊢
            by_cases hle : ws.all (fun x => decide (decTo x 0 ≤ 1048576)) = true
            · rw [if_pos hle]
              have hok : ∀ x ∈ ws, decOk x = true := List.all_eq_true.1 hall
              have hsm : ∀ x ∈ ws, decTo x 0 ≤ 1048576 := fun x hx => of_decide_eq_true (List.all_eq_true.1 hle x hx)
              obtain ⟨k, hk⟩ : ∃ k, ws.length = k + 1 := ⟨ws.length - 1, by have := List.length_pos_iff.2 hne; omega⟩
              have hS : InS (ws.map (decTo · 0)) := by
                intro y hy
                obtain ⟨x, hx, rfl⟩ := List.mem_map.1 hy
                exact ⟨dec_nonneg (hok x hx), hsm x hx⟩
              have hgd : ∀ i (hi : i < ws.length), (ws.map (decTo · 0)).getD i 0 = decTo ws[i] 0 := by
                intro i hi
                rw [getD_in _ i (by simpa using hi)]; simp
              have hw : wordsTo (ws.map (decTo · 0)) (k + 1) = ws := by
                unfold wordsTo
                apply List.ext_getElem
                · simp [hk]
                · intro i h1 h2
                  simp only [List.getElem_map, List.getElem_range]
                  rw [hgd i h2, itoa_dec (hok _ (List.getElem_mem h2)) (hsm _ (List.getElem_mem h2))]
              have hn : numsTo (ws.map (decTo · 0)) (k + 1) = innerL s := splitL_inj (by rw [split_nums hS k, hw, hws])
              have hlast : (ws.map (decTo · 0)).getD k 0 ≠ 0 := by
                rw [hgd k (by omega)]
                intro e
                apply hl
                rw [List.getLast?_eq_getElem?, hk, Nat.add_sub_cancel, List.getElem?_eq_getElem (by omega), (dec_zero (hok _ (List.getElem_mem (by omega)))).1 e]
              unfold textL
              rw [writtenL_full _ k (by simp [hk]) hlast, hn]
              exact hs.symm
            · rw [if_neg hle] at h; cases h
      · rw [if_neg hall] at h; cases h
  · rw [if_neg hb] at h; cases h

end Go.Proofs.YtncmocmmkbmmjaaGreatDoor
