/- vec's parseNumbers and Parse: a text as a vector. Own work; no statement. -/
import Derived.Test.YthpahkcncjieiaaDoorW12
set_option linter.unusedSimpArgs false
set_option linter.unusedVariables false
namespace Go.Proofs.YthpahkcncjieiaaDoor
open Go.RowKit Go.Shelf

attribute [local go_sem] Oper.semAt_some

/-- 'x = append(x, ..)' by way of x's box B, the rows all beyond the boxes: every other block below them is as it was. -/
theorem app_low {W w1 : World} {N n₁ B : Nat} {t e : TypeId} {v v' : Value} {k m : Nat} {xs ys : List Value} {tmp : Obj} (hv : Boxed W B t v) (hrow : W.ownsRow n₁ e 1 v k xs) (hn : n₁ ≤ W.heap.size) (hB : B < n₁) (hN : N ≤ B)
    (hown : w1.ownsRow n₁ e 1 v' m ys) (hgrow : (W.alloc tmp).grownBy w1 v.ownBlock) :
    Boxed w1 B t v ∧ Boxed (w1.setCell ⟨B, 0, none⟩ v') B t v' ∧ (w1.setCell ⟨B, 0, none⟩ v').ownsRow n₁ e 1 v' m ys ∧ KeepsOthers W (w1.setCell ⟨B, 0, none⟩ v') ∧ Below N W (w1.setCell ⟨B, 0, none⟩ v') ∧
      Hid (∀ b, b < n₁ → b ≠ B → (w1.setCell ⟨B, 0, none⟩ v').heap[b]? = W.heap[b]?) := by
  have hne : ∀ b, b < n₁ → some b ≠ v.ownBlock := fun b hb e' => by have := (hrow.lt b e'.symm).1; omega
  have hv1 : Boxed w1 B t v := (hv.alloc tmp).kept hgrow (hne B hB)
  have hoth : ∀ b, b < n₁ → b ≠ B → (w1.setCell ⟨B, 0, none⟩ v').heap[b]? = W.heap[b]? := fun b hb hbB => app_other hgrow b (by omega) (hne b hb) hbB
  refine ⟨hv1, hv1.set v', ownsRow_of_heap hown (fun k hk => Below.heap_setCell _ _ _ _ (fun e' => by have := (hown.lt k hk).1; have e2 : k = B := e'; omega)), ?_, ?_, hoth⟩
  · refine ((KeepsOthers.alloc W tmp).trans (KeepsOthers.of_grownBy hgrow fun j o ej hj => ?_)).trans (KeepsOthers.setCell _ _ _)
    rcases (hrow.alloc tmp).2 with ⟨rfl, _⟩ | ⟨g, cap, cur, rfl, _, hgb, _⟩
    · simp [Value.ownBlock] at ej
    · obtain rfl : g = j := by simpa [Value.ownBlock] using ej
      rw [hgb] at hj; cases hj; rfl
  · exact (((Below.refl N W).alloc (by omega) tmp).grown hgrow (by simp; omega) (fun j ej => by have := (hrow.lt j ej).1; omega)).setCell (p := ⟨B, 0, none⟩) hN v'

theorem boxed_new' {W : World} {b : Nat} {t : TypeId} {v : Value} (h : b = W.heap.size) : Boxed (W.alloc (.cells #[v] t)) b t v := h ▸ Boxed.new W t v

theorem one_set {W : World} {a : Nat} {u : Value} (k : Nat) (h : k ≠ a) : (W.setCell ⟨a, 0, none⟩ u).heap[k]? = W.heap[k]? := Below.heap_setCell _ _ _ _ h
theorem two_sets {W : World} {a b : Nat} {u v : Value} (k : Nat) (h1 : k ≠ a) (h2 : k ≠ b) : ((W.setCell ⟨a, 0, none⟩ u).setCell ⟨b, 0, none⟩ v).heap[k]? = W.heap[k]? := (one_set k h2).trans (one_set k h1)

/-- One word more: what is there, the last number, whether there was too much. -/
def stepW (st : List Int × Int × Bool) (x : List UInt8) : List Int × Int × Bool :=
  if 1048576 < decTo x 0 ∨ st.1.length = 8 then (st.1, decTo x 0, true) else (st.1 ++ [decTo x 0], decTo x 0, st.2.2)
def stOf (ws : List (List UInt8)) : List Int × Int × Bool := ws.foldl stepW ([], 0, false)
theorem stOf_snoc (ws : List (List UInt8)) (x : List UInt8) : stOf (ws ++ [x]) = stepW (stOf ws) x := by simp [stOf]
theorem stOf_len : ∀ (ws : List (List UInt8)), (stOf ws).1.length ≤ 8 := by
  have : ∀ (ws : List (List UInt8)) st, st.1.length ≤ 8 → (ws.foldl stepW st).1.length ≤ 8 := by
    intro ws
    induction ws with
    | nil => intro st h; exact h
    | cons x ws ih =>
      intro st h
      refine ih _ ?_
      unfold stepW
      split
      · exact h
      · simp; omega
  exact fun ws => this ws _ (by simp)
/-- Words as numbers, or why not: the vector and the error's number. -/
def parseN (ws : List (List UInt8)) : List Int × Int :=
  if ws.all decOk then (if (stOf ws).2.1 = 0 then ([], 2) else if (stOf ws).2.2 then ([], 4) else ((stOf ws).1, 0)) else ([], 2)

set_option maxRecDepth 100000 in
set_option maxHeartbeats 4000000 in
theorem parseNumbersO_calls (s : List UInt8) (w : World) (hs : s.length ≤ 1099511627776) :
    Calls Tryd.prog 46 #[.string ⟨s.toArray⟩] w fun e w' => ∃ v, e = .returned (.tuple #[v, .int .i64 (parseN (splitL s)).2]) ∧ w'.ownsRow w.heap.size 3 1 v (parseN (splitL s)).1.length ((parseN (splitL s)).1.map (Value.int .i64)) ∧ Below w.heap.size w w' := by
  obtain ⟨i0, hi, hz0, hz1, hz2⟩ := info_parts Tryd.info3
  refine (callsIn_wide (n := 5)).1 ?_
  refine callsIn_of_wp_marks Tryd.func46 rfl trivial ?_ rfl
  simp only [Tryd.ntmps46, List.size_toArray, List.length_cons, List.length_nil, Nat.reduceAdd, Nat.reduceSub, Array.replicate_succ, Array.replicate_zero, List.push_toArray, List.append_toArray, List.nil_append, List.cons_append]
  gi_wp2_with (refine ⟨trivial, ?_⟩; gi_at_call 62; refine ((callsIn_wide (n := _)).2 (splitSeq_calls _ _)).mono ?_; rintro e w' ⟨rfl, rfl⟩)
  simp only [Nat.add_assoc, Nat.reduceAdd]
  obtain ⟨W8, hW8⟩ : ∃ W8, (((((((w.alloc (.cells #[.slice none 0 0] 28)).alloc (.cells #[.int .i64 0] 38)).alloc (.cells #[.slice none 0 0] 28)).alloc (.cells #[.int .i64 0] 3)).alloc (.cells #[.bool false] 4)).alloc
    (.cells #[.string ⟨s.toArray⟩] 9)).alloc (.cells #[.string ⟨#[32]⟩] 9)).alloc (.cells #[.int .i64 0] 3) = W8 := ⟨_, rfl⟩
  have s8 : W8.heap.size = w.heap.size + 8 := by rw [← hW8]; simp
  have b0 : Boxed W8 w.heap.size 28 (.slice none 0 0) := by rw [← hW8]; exact ((((((((boxed_new' (by simp)).alloc _).alloc _).alloc _).alloc _).alloc _).alloc _).alloc _)
  have b1 : Boxed W8 (w.heap.size + 1) 38 (.int .i64 0) := by rw [← hW8]; exact (((((((boxed_new' (by simp)).alloc _).alloc _).alloc _).alloc _).alloc _).alloc _)
  have b2 : Boxed W8 (w.heap.size + 2) 28 (.slice none 0 0) := by rw [← hW8]; exact ((((((boxed_new' (by simp)).alloc _).alloc _).alloc _).alloc _).alloc _)
  have b3 : Boxed W8 (w.heap.size + 3) 3 (.int .i64 0) := by rw [← hW8]; exact (((((boxed_new' (by simp)).alloc _).alloc _).alloc _).alloc _)
  have b4 : Boxed W8 (w.heap.size + 4) 4 (.bool false) := by rw [← hW8]; exact ((((boxed_new' (by simp)).alloc _).alloc _).alloc _)
  have b5 : IsSplit W8 (w.heap.size + 5) s := by rw [← hW8]; exact ⟨(((boxed_new' (by simp)).alloc _).alloc _), ((boxed_new' (by simp)).alloc _), (boxed_new' (by simp))⟩
  have hB8 : Below w.heap.size w W8 := by
    rw [← hW8]
    exact ((((((((Below.refl _ w).alloc (Nat.le_refl _) _).alloc (by simp) _).alloc (by simp; omega) _).alloc (by simp; omega) _).alloc (by simp; omega) _).alloc (by simp; omega) _).alloc (by simp; omega) _).alloc (by simp; omega) _
  rw [hW8]
  clear hW8
  refine range_law (by decide) (gf := 81) (lb := #[.pointer (some ⟨w.heap.size + 6, 0, none⟩), .pointer (some ⟨w.heap.size + 5, 0, none⟩), .pointer (some ⟨w.heap.size + 7, 0, none⟩)]) rfl (enters_of Tryd.func81 (by kernel_rfl) rfl)
    (split_stops 4 (by decide) (w.heap.size + 5) s hs W8 b5) keepsThree_t (keepsThree_b (by omega)) ?hE (fun _ => rfl)
    (fun pre W => ((∃ v, Boxed W (w.heap.size + 2) 28 v ∧ W.ownsRow (w.heap.size + 8) 3 1 v (stOf (pre.map (·.1))).1.length ((stOf (pre.map (·.1))).1.map (Value.int .i64))) ∧ Boxed W (w.heap.size + 3) 3 (.int .i64 (stOf (pre.map (·.1))).2.1) ∧ Boxed W (w.heap.size + 4) 4 (.bool (stOf (pre.map (·.1))).2.2) ∧
      Boxed W w.heap.size 28 (.slice none 0 0) ∧ Boxed W (w.heap.size + 1) 38 (.int .i64 0) ∧ ((pre.map (·.1)).all decOk = true) ∧ w.heap.size + 8 ≤ W.heap.size) ∧ Below w.heap.size w W)
    (fun c pre W => (c = .ret ∧ Boxed W w.heap.size 28 (.slice none 0 0) ∧ Boxed W (w.heap.size + 1) 38 (.int .i64 2) ∧ ((pre.map (·.1)).all decOk = false)) ∧ Below w.heap.size w W)
    ?hI ?hIx ?hIE ?hIxE ?h0
    (fun x => { tmps := #[.string ⟨s.toArray⟩, undef, .pointer (some ⟨w.heap.size, 0, none⟩), .pointer (some ⟨w.heap.size + 1, 0, none⟩), .pointer (some ⟨w.heap.size + 2, 0, none⟩), .pointer (some ⟨w.heap.size + 3, 0, none⟩), .pointer (some ⟨w.heap.size + 4, 0, none⟩), .string ⟨x.1.toArray⟩, undef, undef, .string ⟨s.toArray⟩, .func (.func 81) #[] #[.pointer (some ⟨w.heap.size + 6, 0, none⟩), .pointer (some ⟨w.heap.size + 5, 0, none⟩), .pointer (some ⟨w.heap.size + 7, 0, none⟩)], .string ⟨x.1.toArray⟩, undef, undef, undef, undef, undef, undef, undef, undef, undef, undef, undef, undef, undef, undef, undef, undef, undef, undef, undef, undef, undef, undef, undef], defers := [] }) ?assign ?body ?done ?stop
  case hE =>
    rintro A B ⟨v, rfl⟩
    exact (KeepsOthers.setCell _ _ _).from _
  case hI =>
    refine OwnFrom.and (Own.from (fun pre X Y row hh hg hr => ?_) _) (ownFrom_below (Nat.le_refl _) (by omega))
    obtain ⟨⟨v, h1, h2⟩, h3, h4, h5, h6, h7, hsz⟩ := hh
    exact ⟨⟨v, boxed_own' hg hr h1, ownsRow_own' hg hr h2⟩, boxed_own' hg hr h3, boxed_own' hg hr h4, boxed_own' hg hr h5, boxed_own' hg hr h6, h7, Nat.le_trans hsz hg.size⟩
  case hIx =>
    intro c
    refine OwnFrom.and (Own.from (fun pre X Y row hh hg hr => ?_) _) (ownFrom_below (Nat.le_refl _) (by omega))
    exact ⟨hh.1, boxed_own' hg hr hh.2.1, boxed_own' hg hr hh.2.2.1, hh.2.2.2⟩
  case hIE =>
    rintro pre A B ⟨⟨⟨v, h1, h2⟩, h3, h4, h5, h6, h7, hsz⟩, hB⟩ ⟨u, rfl⟩
    have hk : ∀ k, k ≠ w.heap.size + 5 → (A.setCell ⟨w.heap.size + 5, 0, none⟩ u).heap[k]? = A.heap[k]? := fun k h => Below.heap_setCell _ _ _ _ h
    exact ⟨⟨⟨v, boxed_of_heap h1 (hk _ (by omega)), ownsRow_of_heap h2 (fun k hk' => hk k (by have := (h2.lt k hk').1; omega))⟩, boxed_of_heap h3 (hk _ (by omega)), boxed_of_heap h4 (hk _ (by omega)), boxed_of_heap h5 (hk _ (by omega)), boxed_of_heap h6 (hk _ (by omega)), h7, by simpa using hsz⟩, hB.setCell (p := ⟨w.heap.size + 5, 0, none⟩) (by simp) _⟩
  case hIxE =>
    rintro c pre A B ⟨⟨hc, h1, h2, h3⟩, hB⟩ ⟨u, rfl⟩
    have hk : ∀ k, k ≠ w.heap.size + 5 → (A.setCell ⟨w.heap.size + 5, 0, none⟩ u).heap[k]? = A.heap[k]? := fun k h => Below.heap_setCell _ _ _ _ h
    exact ⟨⟨hc, boxed_of_heap h1 (hk _ (by omega)), boxed_of_heap h2 (hk _ (by omega)), h3⟩, hB.setCell (p := ⟨w.heap.size + 5, 0, none⟩) (by simp) _⟩
  case h0 => exact ⟨⟨⟨_, b2, World.ownsRow_nil _ _ _ _⟩, b3, b4, b0, b1, rfl, by omega⟩, hB8⟩
  case assign =>
    intro l x W K hK
    gi_wp2
    exact hK
  case body =>
    rintro lp pre ⟨x, hx⟩ W ⟨⟨⟨v, h1, h2⟩, h3, h4, h5, h6, h7, hsz⟩, hB⟩ hlt
    clear b0 b1 b2 b3 b4 b5 hB8
    obtain ⟨pa, ca, rfl⟩ := ownsRow_slice h2
    have hsnoc := hide (stOf_snoc (pre.map (·.1)) x)
    have hl8 := stOf_len (pre.map (·.1))
    have hall : ∀ b, decOk x = b → ((pre ++ [(⟨x, hx⟩ : Word)]).map (·.1)).all decOk = b := by
      intro b hb
      rw [List.map_append, List.all_append, h7]
      simp [hb]
    have Hall := hide hall
    generalize hst : stOf (pre.map (·.1)) = st at *
    obtain ⟨l, last, long⟩ := st
    dsimp only at *
    have c2 := h1.cell
    have c3 := h3.cell
    have c4 := h4.cell
    have c0 := h5.cell
    have c1 := h6.cell
    have f2 := h1.frozen
    have f3 := h3.frozen
    have f4 := h4.frozen
    have f0 := h5.frozen
    have f1 := h6.frozen
    clear hall hst
    cases hd : decOk x with
    | false =>
      have HD := hide hd
      clear hd
      gi_wp2_with (refine ⟨trivial, ?_⟩; gi_at_call 44; refine (CallsIn.inRound lp ((callsIn_wide (n := _)).2 (decimal_calls ⟨x.toArray⟩ _ (by simpa [ByteArray.size] using hx)))).mono ?_; rintro e w' ⟨rfl, rfl⟩; rw [show (⟨x.toArray⟩ : ByteArray).data.toList = x from rfl, HD.out])
      exact ⟨((KeepsOthers.setCell _ _ _).trans (KeepsOthers.setCell _ _ _)).from _, ⟨rfl, boxed_of_heap (h5.set _) (one_set _ (by omega)), (boxed_of_heap h6 (one_set _ (by omega))).set _, Hall.out _ HD.out⟩, (hB.setCell (p := ⟨w.heap.size, 0, none⟩) (by simp) _).setCell (p := ⟨w.heap.size + 1, 0, none⟩) (by simp) _⟩
    | true =>
      have HD := hide hd
      clear hd
      unfold stepW at hsnoc
      dsimp only at hsnoc
      generalize hdn : decTo x 0 = n at *
      have HDN := hide hdn
      clear hdn
      by_cases hn : 1048576 < n
      · gi_wp2_with (refine ⟨trivial, ?_⟩; gi_at_call 44; refine (CallsIn.inRound lp ((callsIn_wide (n := _)).2 (decimal_calls ⟨x.toArray⟩ _ (by simpa [ByteArray.size] using hx)))).mono ?_; rintro e w' ⟨rfl, rfl⟩; rw [show (⟨x.toArray⟩ : ByteArray).data.toList = x from rfl, HD.out, if_pos rfl, HDN.out])
        refine ⟨((KeepsOthers.setCell _ _ _).trans (KeepsOthers.setCell _ _ _)).from _, ⟨two_sets _ (by omega) (by omega), two_sets _ (by omega) (by omega), two_sets _ (by omega) (by omega)⟩, ⟨⟨_, boxed_of_heap h1 (two_sets _ (by omega) (by omega)), ?_⟩, ?_, ?_, boxed_of_heap h5 (two_sets _ (by omega) (by omega)), boxed_of_heap h6 (two_sets _ (by omega) (by omega)), Hall.out _ HD.out, by simpa using hsz⟩, (hB.setCell (p := ⟨w.heap.size + 3, 0, none⟩) (by simp) _).setCell (p := ⟨w.heap.size + 4, 0, none⟩) (by simp) _⟩
        · rw [List.map_append]
          simp only [List.map_cons, List.map_nil]
          rw [hsnoc.out, if_pos (.inl hn)]
          exact ownsRow_of_heap h2 (fun k hk => two_sets k (by have := (h2.lt k hk).1; omega) (by have := (h2.lt k hk).1; omega))
        · rw [List.map_append]
          simp only [List.map_cons, List.map_nil]
          rw [hsnoc.out, if_pos (.inl hn)]
          exact boxed_of_heap (h3.set _) (one_set _ (by omega))
        · rw [List.map_append]
          simp only [List.map_cons, List.map_nil]
          rw [hsnoc.out, if_pos (.inl hn)]
          exact (boxed_of_heap h4 (one_set _ (by omega))).set _
      · by_cases h8 : l.length = 8
        · have h8' : ((l.length : Int) == 8) = true := by simp [h8]
          replace h8 := hide h8
          gi_wp2_with (refine ⟨trivial, ?_⟩; gi_at_call 44; refine (CallsIn.inRound lp ((callsIn_wide (n := _)).2 (decimal_calls ⟨x.toArray⟩ _ (by simpa [ByteArray.size] using hx)))).mono ?_; rintro e w' ⟨rfl, rfl⟩; rw [show (⟨x.toArray⟩ : ByteArray).data.toList = x from rfl, HD.out, if_pos rfl, HDN.out])
          refine ⟨((KeepsOthers.setCell _ _ _).trans (KeepsOthers.setCell _ _ _)).from _, ⟨two_sets _ (by omega) (by omega), two_sets _ (by omega) (by omega), two_sets _ (by omega) (by omega)⟩, ⟨⟨_, boxed_of_heap h1 (two_sets _ (by omega) (by omega)), ?_⟩, ?_, ?_, boxed_of_heap h5 (two_sets _ (by omega) (by omega)), boxed_of_heap h6 (two_sets _ (by omega) (by omega)), Hall.out _ HD.out, by simpa using hsz⟩, (hB.setCell (p := ⟨w.heap.size + 3, 0, none⟩) (by simp) _).setCell (p := ⟨w.heap.size + 4, 0, none⟩) (by simp) _⟩
          · rw [List.map_append]
            simp only [List.map_cons, List.map_nil]
            rw [hsnoc.out, if_pos (.inr h8.out)]
            exact ownsRow_of_heap h2 (fun k hk => two_sets k (by have := (h2.lt k hk).1; omega) (by have := (h2.lt k hk).1; omega))
          · rw [List.map_append]
            simp only [List.map_cons, List.map_nil]
            rw [hsnoc.out, if_pos (.inr h8.out)]
            exact boxed_of_heap (h3.set _) (one_set _ (by omega))
          · rw [List.map_append]
            simp only [List.map_cons, List.map_nil]
            rw [hsnoc.out, if_pos (.inr h8.out)]
            exact (boxed_of_heap h4 (one_set _ (by omega))).set _
        · have h8' : ((l.length : Int) == 8) = false := by simp; omega
          have hif := hide (show ¬ (1048576 < n ∨ l.length = 8) by omega)
          have h1' := boxed_of_heap h1 (one_set (a := w.heap.size + 3) (u := .int .i64 n) (w.heap.size + 2) (by omega))
          have h2' := ownsRow_of_heap h2 (fun k hk => one_set (a := w.heap.size + 3) (u := .int .i64 n) k (by have := (h2.lt k hk).1; omega))
          have hbs := hB.size
          gi_wp2_with (first | (refine ⟨trivial, ?_⟩; gi_at_call 44; refine (CallsIn.inRound lp ((callsIn_wide (n := _)).2 (decimal_calls ⟨x.toArray⟩ _ (by simpa [ByteArray.size] using hx)))).mono ?_; rintro e w' ⟨rfl, rfl⟩; rw [show (⟨x.toArray⟩ : ByteArray).data.toList = x from rfl, HD.out, if_pos rfl, HDN.out]) | (gi_at_builtin; refine wpListIn_append_own_at _ rfl (.tmp 28) _ 28 rfl (w.heap.size + 8) 3 i0 (.int .i64 0) 1 8 Tryd.underlying28 hi hz0 hz1 hz2 rfl (by decide) _ _ _ rfl (World.ownsRow.alloc h2' _) ⟨_, 0, none⟩ 1 1 [.int .i64 n] rfl rfl (cell_one_at (by simp)) (by intro u hu; simp at hu; subst hu; rfl) (by unfold maxLen; omega) (by omega) (by simp; omega) ?_; intro v1 w1 hown1 hgrow1 _ hat1; obtain ⟨g1, cap1, rfl⟩ := ownsRow_succ hown1; obtain ⟨bx1, t1, r1, k1, hb1, ho1⟩ := app_low (N := w.heap.size) h1' h2' (by simp; omega) (by omega) (by omega) hown1 hgrow1; have d1 := bx1.cell; have g1f := bx1.frozen; clear hgrow1 hat1 hown1))
          have q : ∀ b, b < w.heap.size + 8 → b ≠ w.heap.size + 2 → b ≠ w.heap.size + 3 → _ = w'.heap[b]? := fun b hb h2 h3 => (ho1.out b hb h2).trans (one_set b h3)
          refine ⟨((KeepsOthers.setCell _ _ _).trans k1).from _, ⟨q _ (by omega) (by omega) (by omega), q _ (by omega) (by omega) (by omega), q _ (by omega) (by omega) (by omega)⟩, ⟨⟨_, t1, ?_⟩, ?_, ?_, boxed_of_heap h5 (q _ (by omega) (by omega) (by omega)), boxed_of_heap h6 (q _ (by omega) (by omega) (by omega)), Hall.out _ HD.out, ?_⟩, (hB.setCell (p := ⟨w.heap.size + 3, 0, none⟩) (by simp) _).trans hb1⟩
          · rw [List.map_append]
            simp only [List.map_cons, List.map_nil]
            rw [hsnoc.out, if_neg hif.out]
            simpa using r1
          · rw [List.map_append]
            simp only [List.map_cons, List.map_nil]
            rw [hsnoc.out, if_neg hif.out]
            exact boxed_of_heap (h3.set _) (ho1.out _ (by omega) (by omega))
          · rw [List.map_append]
            simp only [List.map_cons, List.map_nil]
            rw [hsnoc.out, if_neg hif.out]
            exact boxed_of_heap h4 (q _ (by omega) (by omega) (by omega))
          · have := hb1.size
            simp at this ⊢
            omega
  case done =>
    rintro D ys W hD hys ⟨⟨⟨v, h1, h2⟩, h3, h4, h5, h6, h7, hsz⟩, hB⟩ hK
    clear b0 b1 b2 b3 b4 b5 hB8
    obtain ⟨pa, ca, rfl⟩ := ownsRow_slice h2
    rw [hys] at h1 h2 h3 h4 h7
    have hp : parseN (splitL s) = (if (stOf (splitL s)).2.1 = 0 then ([], 2) else if (stOf (splitL s)).2.2 then ([], 4) else ((stOf (splitL s)).1, 0)) := by unfold parseN; rw [if_pos h7]
    generalize stOf (splitL s) = st at *
    obtain ⟨l, last, long⟩ := st
    dsimp only at *
    obtain ⟨pn, hpn⟩ : ∃ pn, parseN (splitL s) = pn := ⟨_, rfl⟩
    rw [hpn] at hp
    have Hp := hide hp
    have Hpn := hide hpn
    clear hp hpn hys h7
    have c2 := h1.cell
    have c3 := h3.cell
    have c4 := h4.cell
    have c0 := h5.cell
    have c1 := h6.cell
    have f0 := h5.frozen
    have f1 := h6.frozen
    by_cases hl0 : last = 0
    · have hl0' : (last == 0) = true := by simp [hl0]
      have e := Hp.out
      rw [if_pos hl0] at e
      subst e
      clear Hp hl0
      gi_wp2
      obtain ⟨W3, hW3⟩ : ∃ W3, (W.setCell ⟨w.heap.size, 0, none⟩ (.slice none 0 0)).setCell ⟨w.heap.size + 1, 0, none⟩ (.int .i64 2) = W3 := ⟨_, rfl⟩
      have hK3 : W3.heap[D]? = some (.deferred (some [])) := by
        rw [← hW3]
        exact (KeepsOthers.setCell _ _ _).same D _ ((KeepsOthers.setCell _ _ _).same D _ hK rfl) rfl
      have R0 : Boxed W3 w.heap.size 28 (.slice none 0 0) := by rw [← hW3]; exact boxed_of_heap (h5.set _) (one_set _ (by omega))
      have R1 : Boxed W3 (w.heap.size + 1) 38 (.int .i64 2) := by rw [← hW3]; exact (boxed_of_heap h6 (one_set _ (by omega))).set _
      have hB3 : Below w.heap.size w W3 := by rw [← hW3]; exact (hB.setCell (p := ⟨w.heap.size, 0, none⟩) (by simp) _).setCell (p := ⟨w.heap.size + 1, 0, none⟩) (by simp) _
      have hk3 : ∀ k, w.heap.size + 8 ≤ k → W3.heap[k]? = W.heap[k]? := by intro k hk; rw [← hW3]; exact two_sets k (by omega) (by omega)
      rw [hW3]
      have hg := grownBy_putObj' W3 D (.deferred none)
      have hr : ∀ r, some D = some r → ∃ o : Obj, W3.heap[r]? = some o ∧ o.isCells = false := fun r e => by cases e; exact ⟨_, hK3, rfl⟩
      have Q0 := (boxed_own' hg hr R0).cell
      have Q1 := (boxed_own' hg hr R1).cell
      refine ⟨by simp, .inl ⟨_, _, rfl, run_takeDeferred hK3, ?_⟩⟩
      refine ⟨.tuple #[.slice none 0 0, .int .i64 2], by simp [results, Tryd.f46, go_sem, Q0, Q1], .slice none 0 0, by rw [Hpn.out], ?_, hB3.trans (belowK_b (w := w) (Nat.le_refl _) W3 D _ _ (by omega) hK3 rfl rfl)⟩
      rw [Hpn.out]
      exact World.ownsRow_nil _ _ _ _
    · have hl0' : (last == 0) = false := by simp [hl0]
      have e := Hp.out
      rw [if_neg hl0] at e
      clear Hp hl0
      cases long with
      | true =>
        rw [if_pos rfl] at e
        subst e
        gi_wp2
        obtain ⟨W3, hW3⟩ : ∃ W3, (W.setCell ⟨w.heap.size, 0, none⟩ (.slice none 0 0)).setCell ⟨w.heap.size + 1, 0, none⟩ (.int .i64 4) = W3 := ⟨_, rfl⟩
        have hK3 : W3.heap[D]? = some (.deferred (some [])) := by
          rw [← hW3]
          exact (KeepsOthers.setCell _ _ _).same D _ ((KeepsOthers.setCell _ _ _).same D _ hK rfl) rfl
        have R0 : Boxed W3 w.heap.size 28 (.slice none 0 0) := by rw [← hW3]; exact boxed_of_heap (h5.set _) (one_set _ (by omega))
        have R1 : Boxed W3 (w.heap.size + 1) 38 (.int .i64 4) := by rw [← hW3]; exact (boxed_of_heap h6 (one_set _ (by omega))).set _
        have hB3 : Below w.heap.size w W3 := by rw [← hW3]; exact (hB.setCell (p := ⟨w.heap.size, 0, none⟩) (by simp) _).setCell (p := ⟨w.heap.size + 1, 0, none⟩) (by simp) _
        have hk3 : ∀ k, w.heap.size + 8 ≤ k → W3.heap[k]? = W.heap[k]? := by intro k hk; rw [← hW3]; exact two_sets k (by omega) (by omega)
        rw [hW3]
        have hg := grownBy_putObj' W3 D (.deferred none)
        have hr : ∀ r, some D = some r → ∃ o : Obj, W3.heap[r]? = some o ∧ o.isCells = false := fun r e => by cases e; exact ⟨_, hK3, rfl⟩
        have Q0 := (boxed_own' hg hr R0).cell
        have Q1 := (boxed_own' hg hr R1).cell
        refine ⟨by simp, .inl ⟨_, _, rfl, run_takeDeferred hK3, ?_⟩⟩
        refine ⟨.tuple #[.slice none 0 0, .int .i64 4], by simp [results, Tryd.f46, go_sem, Q0, Q1], .slice none 0 0, by rw [Hpn.out], ?_, hB3.trans (belowK_b (w := w) (Nat.le_refl _) W3 D _ _ (by omega) hK3 rfl rfl)⟩
        rw [Hpn.out]
        exact World.ownsRow_nil _ _ _ _
      | false =>
        rw [if_neg (by simp)] at e
        subst e
        gi_wp2
        obtain ⟨W3, hW3⟩ : ∃ W3, (W.setCell ⟨w.heap.size, 0, none⟩ (.slice pa l.length ca)).setCell ⟨w.heap.size + 1, 0, none⟩ (.int .i64 0) = W3 := ⟨_, rfl⟩
        have hK3 : W3.heap[D]? = some (.deferred (some [])) := by
          rw [← hW3]
          exact (KeepsOthers.setCell _ _ _).same D _ ((KeepsOthers.setCell _ _ _).same D _ hK rfl) rfl
        have R0 : Boxed W3 w.heap.size 28 (.slice pa l.length ca) := by rw [← hW3]; exact boxed_of_heap (h5.set _) (one_set _ (by omega))
        have R1 : Boxed W3 (w.heap.size + 1) 38 (.int .i64 0) := by rw [← hW3]; exact (boxed_of_heap h6 (one_set _ (by omega))).set _
        have hB3 : Below w.heap.size w W3 := by rw [← hW3]; exact (hB.setCell (p := ⟨w.heap.size, 0, none⟩) (by simp) _).setCell (p := ⟨w.heap.size + 1, 0, none⟩) (by simp) _
        have hk3 : ∀ k, w.heap.size + 8 ≤ k → W3.heap[k]? = W.heap[k]? := by intro k hk; rw [← hW3]; exact two_sets k (by omega) (by omega)
        rw [hW3]
        have hg := grownBy_putObj' W3 D (.deferred none)
        have hr : ∀ r, some D = some r → ∃ o : Obj, W3.heap[r]? = some o ∧ o.isCells = false := fun r e => by cases e; exact ⟨_, hK3, rfl⟩
        have Q0 := (boxed_own' hg hr R0).cell
        have Q1 := (boxed_own' hg hr R1).cell
        refine ⟨by simp, .inl ⟨_, _, rfl, run_takeDeferred hK3, ?_⟩⟩
        refine ⟨.tuple #[.slice pa l.length ca, .int .i64 0], by simp [results, Tryd.f46, go_sem, Q0, Q1], .slice pa l.length ca, by rw [Hpn.out], ?_, hB3.trans (belowK_b (w := w) (Nat.le_refl _) W3 D _ _ (by omega) hK3 rfl rfl)⟩
        rw [Hpn.out]
        exact ownsRow_low (ownsRow_own' hg hr (ownsRow_of_heap h2 (fun k hk => hk3 k (h2.lt k hk).1))) (by omega)
  case stop =>
    rintro D c pre W hD hpre ⟨⟨rfl, h5, h6, h7⟩, hB⟩ hK
    clear b0 b1 b2 b3 b4 b5 hB8
    have hpn : parseN (splitL s) = ([], 2) := by
      unfold parseN
      rw [if_neg]
      intro hall
      rw [List.all_eq_true] at hall
      rw [List.all_eq_false] at h7
      obtain ⟨x, hx, hx'⟩ := h7
      exact hx' (hall x (hpre.subset hx))
    have Hpn := hide hpn
    clear hpn h7
    gi_wp2
    have hg := grownBy_putObj' W D (.deferred none)
    have hr : ∀ r, some D = some r → ∃ o : Obj, W.heap[r]? = some o ∧ o.isCells = false := fun r e => by cases e; exact ⟨_, hK, rfl⟩
    have Q0 := (boxed_own' hg hr h5).cell
    have Q1 := (boxed_own' hg hr h6).cell
    refine ⟨by simp, .inl ⟨_, _, rfl, run_takeDeferred hK, ?_⟩⟩
    refine ⟨.tuple #[.slice none 0 0, .int .i64 2], by simp [results, Tryd.f46, go_sem, Q0, Q1], .slice none 0 0, by rw [Hpn.out], ?_, hB.trans (belowK_b (w := w) (Nat.le_refl _) W D _ _ (by omega) hK rfl rfl)⟩
    rw [Hpn.out]
    exact World.ownsRow_nil _ _ _ _

theorem parseNumbers_calls (s : List UInt8) (w : World) (hs : s.length ≤ 1099511627776) :
    Calls Tryd.prog 46 #[.string ⟨s.toArray⟩] w fun e w' => ∃ v, e = .returned (.tuple #[v, .int .i64 (parseN (splitL s)).2]) ∧ IsNums .i64 w' v (parseN (splitL s)).1 ∧ Below w.heap.size w w' :=
  (parseNumbersO_calls s w hs).mono fun _ _ ⟨v, he, ho, hb⟩ => ⟨v, he, IsNums.of_row ho, hb⟩

end Go.Proofs.YthpahkcncjieiaaDoor
