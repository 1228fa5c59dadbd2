/- Own work: the parts M15, G1, G2, G5, G6, G7 of the proof, laid together. -/
import Derived.Test.YtjbjjfndkpcciaaGreatDoorPartLogStripes12
import Derived.Test.YtjbjjfndkpcciaaGreatDoorPartLogStripes11
/- Plain laws on maps: in words and back; with a span more. Own work; no statement. -/
set_option linter.unusedSimpArgs false
set_option linter.unusedVariables false
namespace Go.Proofs.YtjbjjfndkpcciaaGreatDoor

theorem rng8 {n : Int} (h : (Lit.int .u8 n).wf = true) : 0 ≤ n ∧ n ≤ 255 := by
  have h' : (decide (IntKind.u8.min ≤ n) && decide (n ≤ IntKind.u8.max)) = true := h
  simp only [Bool.and_eq_true, decide_eq_true_eq] at h'
  exact h'
theorem rng16 {n : Int} (h : (Lit.int .u16 n).wf = true) : 0 ≤ n ∧ n ≤ 65535 := by
  have h' : (decide (IntKind.u16.min ≤ n) && decide (n ≤ IntKind.u16.max)) = true := h
  simp only [Bool.and_eq_true, decide_eq_true_eq] at h'
  exact h'
theorem rng64 {n : Int} (h : (Lit.int .i64 n).wf = true) : -9223372036854775808 ≤ n ∧ n ≤ 9223372036854775807 := by
  have h' : (decide (IntKind.i64.min ≤ n) && decide (n ≤ IntKind.i64.max)) = true := h
  simp only [Bool.and_eq_true, decide_eq_true_eq] at h'
  exact h'
/-- A map's numbers may stand in words. -/
def MapS (m : MapD) : Prop := ∀ x ∈ m, (0 ≤ x.1 ∧ x.1 ≤ 2147483647) ∧ (0 ≤ x.2 ∧ x.2 ≤ 2147483647)
theorem MapS.r {m : MapD} (h : MapS m) : MapR m := fun x hx => by have := h x hx; omega

theorem span_text {x : Int × Int} (h : (0 ≤ x.1 ∧ x.1 ≤ 2147483647) ∧ (0 ≤ x.2 ∧ x.2 ≤ 2147483647)) : spanL (spanB x) = (x, true) := by
  have hc : cutL (spanB x) 47 = (Lib.itoa x.1, Lib.itoa x.2, true) := cut_at (Lib.itoa x.1) (Lib.itoa x.2) 47 (itoa_ne h.1.1 (by decide))
  unfold spanL
  rw [hc]
  dsimp only
  rw [numL_itoa h.1.1 h.1.2, numL_itoa h.2.1 h.2.2]
  rfl
theorem text_span {l : List UInt8} (h : (spanL l).2 = true) : spanB (spanL l).1 = l ∧ (0 ≤ (spanL l).1.1 ∧ (spanL l).1.1 ≤ 2147483647) ∧ (0 ≤ (spanL l).1.2 ∧ (spanL l).1.2 ≤ 2147483647) := by
  unfold spanL at h ⊢
  by_cases hn : (numL (cutL l 47).1).2 = true ∧ (numL (cutL l 47).2.1).2 = true
  · rw [if_pos hn]
    obtain ⟨t1, r1, r2⟩ := numL_text hn.1
    obtain ⟨t2, r3, r4⟩ := numL_text hn.2
    refine ⟨?_, ⟨r1, r2⟩, r3, r4⟩
    have hc : (cutL l 47).2.2 = true := by
      cases hb : (cutL l 47).2.2 with
      | true => rfl
      | false =>
        have : (cutL l 47).2.1 = [] := by
          unfold cutL at hb ⊢
          split
          · rfl
          · rename_i hi
            rw [if_neg hi] at hb
            cases hb
        rw [this] at hn
        exact absurd hn.2 (by decide)
    have hf := cut_form hc
    unfold spanB
    dsimp only
    rw [t1, t2]
    exact hf.symm
  · rw [if_neg hn] at h
    cases h
theorem span_no32 {x : Int × Int} (h : 0 ≤ x.1 ∧ 0 ≤ x.2) : ∀ c ∈ spanB x, c ≠ 32 := by
  intro c hc
  unfold spanB at hc
  simp only [List.mem_append, List.mem_cons, List.not_mem_nil, or_false] at hc
  rcases hc with hc | rfl | hc
  · exact itoa_ne h.1 (by decide) c hc
  · decide
  · exact itoa_ne h.2 (by decide) c hc
theorem split_spans {m : MapD} (h : ∀ x ∈ m, 0 ≤ x.1 ∧ 0 ≤ x.2) : ∀ k, k < m.length → splitL (spansTo m (k + 1)) = (m.take (k + 1)).map spanB
  | 0, hk => by
    have hx := h _ (List.getElem_mem hk)
    rw [spansTo, spansTo, if_pos rfl, List.nil_append, List.nil_append, List.take_add_one, List.getElem?_eq_getElem hk, List.getD_eq_getElem?_getD, List.getElem?_eq_getElem hk]
    exact splitL_word _ (span_no32 hx)
  | k + 1, hk => by
    have hx := h _ (List.getElem_mem hk)
    have ih := split_spans h k (by omega)
    rw [spansTo, if_neg (by omega), List.singleton_append, splitL_append, ih, List.take_add_one (i := k + 1), List.getElem?_eq_getElem hk, List.getD_eq_getElem?_getD, List.getElem?_eq_getElem hk]
    simp only [Option.getD_some, Option.toList_some, List.map_append, List.map_cons, List.map_nil]
    rw [splitL_word _ (span_no32 hx)]
theorem split_textM {m : MapD} (h : ∀ x ∈ m, 0 ≤ x.1 ∧ 0 ≤ x.2) (h0 : 0 < m.length) : splitL (textM m) = m.map spanB := by
  obtain ⟨k, hk⟩ : ∃ k, m.length = k + 1 := ⟨m.length - 1, by omega⟩
  unfold textM
  have := split_spans h k (by omega)
  rw [hk, this, ← hk, List.take_length]
theorem textM_ne {m : MapD} (h : ∀ x ∈ m, 0 ≤ x.1 ∧ 0 ≤ x.2) (h0 : 0 < m.length) : textM m ≠ [] := by
  intro e
  have := split_textM h h0
  rw [e] at this
  cases m with
  | nil => simp at h0
  | cons x r =>
    rw [List.map_cons, show splitL [] = [[]] from rfl, List.cons.injEq] at this
    have h1 := this.1
    unfold spanB at h1
    simp at h1
theorem parse_textM {m : MapD} (hs : MapS m) (hok : okMap m = true) : parseM (textM m) = (m, 0) := by
  have h : ∀ x ∈ m, 0 ≤ x.1 ∧ 0 ≤ x.2 := fun x hx => ⟨(hs x hx).1.1, (hs x hx).2.1⟩
  have h0 := okMap_pos hok
  have e1 : spansB (m.map spanB) = true := by
    unfold spansB
    rw [List.all_eq_true]
    intro y hy
    obtain ⟨x, hx, rfl⟩ := List.mem_map.1 hy
    rw [span_text (hs x hx)]
  have e2 : spansOf (m.map spanB) = m := by
    unfold spansOf
    rw [List.map_map]
    conv => rhs; rw [← List.map_id m]
    apply List.map_congr_left
    intro x hx
    simp only [Function.comp]
    rw [span_text (hs x hx)]
    rfl
  have e3 : parseT (textM m) = (m, true) := by
    unfold parseT
    rw [if_neg (textM_ne h h0), split_textM h h0, parseW, if_pos e1, e2]
  unfold parseM
  rw [e3, if_pos rfl, if_pos hok]
theorem parseM_some {s : List UInt8} (h : (parseM s).2 = 0) : okMap (parseM s).1 = true ∧ MapS (parseM s).1 ∧ textM (parseM s).1 = s := by
  unfold parseM at h ⊢
  by_cases h1 : (parseT s).2 = true
  · rw [if_pos h1] at h ⊢
    by_cases h2 : okMap (parseT s).1 = true
    · rw [if_pos h2]
      unfold parseT at h1 h2 ⊢
      by_cases h3 : s = []
      · rw [if_pos h3] at h2
        cases h2
      · rw [if_neg h3] at h1 h2 ⊢
        unfold parseW at h1 h2 ⊢
        by_cases h4 : spansB (splitL s) = true
        · rw [if_pos h4] at h2 ⊢
          dsimp only at h2 ⊢
          rw [spansB, List.all_eq_true] at h4
          have hS : MapS (spansOf (splitL s)) := by
            intro y hy
            obtain ⟨x, hx, rfl⟩ := List.mem_map.1 hy
            exact (text_span (h4 x hx)).2
          refine ⟨h2, hS, splitL_inj ?_⟩
          rw [split_textM (fun x hx => ⟨(hS x hx).1.1, (hS x hx).2.1⟩) (okMap_pos h2)]
          unfold spansOf
          rw [List.map_map]
          conv => rhs; rw [← List.map_id (splitL s)]
          apply List.map_congr_left
          intro x hx
          exact (text_span (h4 x hx)).1
        · rw [if_neg h4] at h1
          cases h1
    · rw [if_neg h2] at h
      cases h
  · rw [if_neg h1] at h
    cases h

theorem okFrom_snoc : ∀ (m : MapD) (a f n : Int), okFrom a m = true → a ≤ f → (∀ x ∈ m, x.1 ≤ f) → 1 ≤ n → n ≤ 8 → okFrom a (m ++ [(f, n)]) = true
  | [], a, f, n, _, h1, _, h2, h3 => by simp [okFrom, h1, h2, h3]
  | x :: r, a, f, n, h, h1, hx, h2, h3 => by
    rw [okFrom_cons] at h
    simp only [Bool.and_eq_true, decide_eq_true_eq] at h
    rw [List.cons_append, okFrom_cons, okFrom_snoc r x.1 f n h.2 (hx x (by simp)) (fun y hy => hx y (by simp [hy])) h2 h3]
    simp [h.1.1.1, h.1.1.2, h.1.2]
theorem okMap_snoc {m : MapD} {f n : Int} (h : okMap m = true) (hx : ∀ x ∈ m, x.1 ≤ f) (h1 : 1 ≤ n) (h2 : n ≤ 8) : okMap (m ++ [(f, n)]) = true := by
  have hf := okMap_from h
  cases m with
  | nil => simp [okMap] at h
  | cons x r =>
    have hz := okMap_zero h
    simp only [List.getElem_cons_zero] at hz
    have := okFrom_snoc (x :: r) 0 f n hf (by have := hx x (by simp); omega) hx h1 h2
    rw [List.cons_append] at this ⊢
    simp only [okMap, hz, decide_true, Bool.true_and]
    exact this
theorem getD_app (m r : MapD) (k : Nat) (h : k < m.length) : (m ++ r).getD k (0, 0) = m.getD k (0, 0) := by
  rw [List.getD_eq_getElem?_getD, List.getD_eq_getElem?_getD, List.getElem?_append_left h]
theorem epochM_app (m r : MapD) (p : Int) : ∀ k, k ≤ m.length → epochM (m ++ r) p k = epochM m p k
  | 0, _ => rfl
  | k + 1, h => by
    unfold epochM
    rw [getD_app m r k (by omega), epochM_app m r p k (by omega)]
theorem find_snoc {m : MapD} {f n p : Int} (h : okMap m = true) (h' : okMap (m ++ [(f, n)]) = true) (h0 : 0 ≤ p) (hp : p < f) : findM (m ++ [(f, n)]) p = findM m p := by
  have hg : (m ++ [(f, n)]).getD m.length (0, 0) = (f, n) := by
    rw [List.getD_eq_getElem?_getD, List.getElem?_append_right (Nat.le_refl _)]
    simp
  have he : epochM (m ++ [(f, n)]) p (m ++ [(f, n)]).length = epochM m p m.length := by
    rw [List.length_append, List.length_singleton, epochM, hg, if_neg (by omega), epochM_app m _ p _ (Nat.le_refl _)]
  have h1 := epochM_pos h h0 m.length (okMap_pos h)
  have h2 := epochM_le m p m.length
  unfold findM
  rw [if_pos ⟨h0, h'⟩, if_pos ⟨h0, h⟩, he, getD_app m _ _ (by omega)]
theorem find_last {m : MapD} {f n : Int} (h' : okMap (m ++ [(f, n)]) = true) (h0 : 0 ≤ f) : findM (m ++ [(f, n)]) f = ((m.length : Int) + 1, 0, 0) := by
  have hg : (m ++ [(f, n)]).getD m.length (0, 0) = (f, n) := by
    rw [List.getD_eq_getElem?_getD, List.getElem?_append_right (Nat.le_refl _)]
    simp
  unfold findM
  rw [if_pos ⟨h0, h'⟩, List.length_append, List.length_singleton, epochM, hg, if_pos (Int.le_refl _), Nat.add_sub_cancel, hg]
  simp

end Go.Proofs.YtjbjjfndkpcciaaGreatDoor

/- A row of segments in memory, each apart from the others. Own work; no statement. -/
set_option linter.unusedSimpArgs false
set_option linter.unusedVariables false
namespace Go.Proofs.YtjbjjfndkpcciaaGreatDoor
open Go.RowKit Go.Shelf Go.Sort

/-- A segment that may have more slots than its disk has lines: its disk may have fallen. -/
structure IsSegX (w : World) (B : Nat) (m : SegM) (S : SegD) : Prop where
  few : S.slots.length ≤ 1048576
  low : B ≤ m.p
  cl : m.c ≤ w.heap.size
  disk : IsDisk w B m.dp m.dg S.D
  val : ∃ (v : Value) (qs : List Nat), v.ownBlock = m.sg ∧ qs.length = S.slots.length ∧ w.heap[m.p]? = some (.cells #[ptrV m.dp, .int .i64 S.sealed, .int .i64 S.trim, v] 144 (0, 0)) ∧ w.ownsRow B 177 1 v qs.length (qs.map ptrV) ∧ ∀ i (h : i < qs.length) (h' : i < S.slots.length), SlotAt w m.c qs[i] S.slots[i]

theorem IsSeg.x {w : World} {B : Nat} {m : SegM} {S : SegD} (h : IsSeg w B m S) : IsSegX w B m S :=
  ⟨Nat.le_trans h.ok.few h.disk.len.1, h.low, h.cl, h.disk, h.val⟩
theorem IsSegX.seg {w : World} {B : Nat} {m : SegM} {S : SegD} (h : IsSegX w B m S) (hok : S.ok) : IsSeg w B m S := ⟨hok, h.low, h.cl, h.disk, h.val⟩

theorem IsDisk.types {w : World} {B p : Nat} {g : Option Nat} {D : DiskD} (h : IsDisk w B p g D) {k : Nat} (hk : onDisk p g k) : ∃ c t, w.heap[k]? = some (.cells c t (0, 0)) ∧ (t = 129 ∨ t = 9) := by
  obtain ⟨v', hv', hp', hr'⟩ := h.val
  rcases hk with rfl | hk
  · exact ⟨_, _, hp', .inl rfl⟩
  · rcases hr'.2 with ⟨rfl, _⟩ | ⟨g, cap, cur, rfl, hb, hg, _⟩
    · rw [← hv'] at hk; cases hk
    · obtain rfl : g = k := by rw [← hv'] at hk; simpa [Value.ownBlock] using hk
      exact ⟨_, _, hg, .inr rfl⟩

theorem IsSegX.types {w : World} {B : Nat} {m : SegM} {S : SegD} (h : IsSegX w B m S) {k : Nat} (hk : m.on k) : B ≤ k ∧ k < w.heap.size ∧ ∃ c t, w.heap[k]? = some (.cells c t (0, 0)) ∧ (t = 144 ∨ t = 177 ∨ t = 129 ∨ t = 9) := by
  obtain ⟨v, qs, hv, hl, hp, hr, hs⟩ := h.val
  rcases hk with rfl | hk | hk
  · exact ⟨h.low, ltAt hp, _, _, hp, .inl rfl⟩
  · rcases hr.2 with ⟨rfl, _⟩ | ⟨g, cap, cur, rfl, hb, hg, _⟩
    · rw [← hv] at hk; cases hk
    · obtain rfl : g = k := by rw [← hv] at hk; simpa [Value.ownBlock] using hk
      exact ⟨hb, ltAt hg, _, _, hg, .inr (.inl rfl)⟩
  · have := h.disk.on hk
    obtain ⟨c, t, e, ht⟩ := h.disk.types hk
    exact ⟨this.1, this.2, c, t, e, ht.imp id id |>.elim (fun e => .inr (.inr (.inl e))) fun e => .inr (.inr (.inr e))⟩

/-- No block of X is one of those that never turn. -/
def Firm (w : World) (X : Nat → Prop) : Prop := ∀ k, X k → ∀ c t f, w.heap[k]? = some (.cells c t f) → t ≠ 176 ∧ t ≠ 3 ∧ t ≠ 118

theorem IsSegX.firm {w : World} {B : Nat} {m : SegM} {S : SegD} (h : IsSegX w B m S) : Firm w m.on := fun k hk c t f e => by
  obtain ⟨-, -, c', t', e', ht⟩ := h.types hk
  rw [e] at e'
  simp only [Option.some.injEq, Obj.cells.injEq] at e'
  obtain ⟨-, rfl, -⟩ := e'
  rcases ht with rfl | rfl | rfl | rfl <;> exact ⟨by decide, by decide, by decide⟩
theorem IsDisk.firm {w : World} {B p : Nat} {g : Option Nat} {D : DiskD} (h : IsDisk w B p g D) : Firm w (onDisk p g) := fun k hk c t f e => by
  obtain ⟨c', t', e', ht⟩ := h.types hk
  rw [e] at e'
  simp only [Option.some.injEq, Obj.cells.injEq] at e'
  obtain ⟨-, rfl, -⟩ := e'
  rcases ht with rfl | rfl <;> exact ⟨by decide, by decide, by decide⟩
theorem firm_none (w : World) : Firm w fun _ => False := fun _ h => h.elim
/-- A block of another type is none of a segment's. -/
theorem IsSegX.not_on {w : World} {B : Nat} {m : SegM} {S : SegD} (h : IsSegX w B m S) {k : Nat} {c : Array Value} {t : TypeId} {f : Nat × Nat} (hk : w.heap[k]? = some (.cells c t f)) (ht : t ≠ 144 ∧ t ≠ 177 ∧ t ≠ 129 ∧ t ≠ 9) : ¬ m.on k := fun e => by
  obtain ⟨-, -, c', t', e', h'⟩ := h.types e
  rw [hk] at e'
  simp only [Option.some.injEq, Obj.cells.injEq] at e'
  obtain ⟨-, rfl, -⟩ := e'
  rcases h' with h | h | h | h
  · exact ht.1 h
  · exact ht.2.1 h
  · exact ht.2.2.1 h
  · exact ht.2.2.2 h

/-- A segment is as it was where its own blocks have not turned, nor slots, nor numbers. -/
theorem IsSegX.keep' {w w' : World} {B : Nat} {m : SegM} {S : SegD} (h : IsSegX w B m S) (hz : w.heap.size ≤ w'.heap.size) (ho : ∀ k, m.on k → w'.heap[k]? = w.heap[k]?)
    (hk : ∀ (k : Nat) (c : Array Value) (t : TypeId), w.heap[k]? = some (.cells c t (0, 0)) → (t = 176 ∨ t = 3) → w'.heap[k]? = w.heap[k]?) : IsSegX w' B m S := by
  obtain ⟨v, qs, hv, hl, hp, hr, hs⟩ := h.val
  exact ⟨h.few, h.low, Nat.le_trans h.cl hz, h.disk.keep fun k e => ho k (.inr (.inr e)), v, qs, hv, hl, (ho m.p (.inl rfl)).trans hp, ownsRow_of_heap hr fun k e => ho k (.inr (.inl (hv.symm.trans e))), fun i h1 h2 => (hs i h1 h2).keep hk⟩
theorem IsSegX.touch {w w' : World} {B : Nat} {m : SegM} {S : SegD} {X : Nat → Prop} (h : IsSegX w B m S) (t : Touch X w w') (hX : Firm w X) (ha : ∀ k, m.on k → ¬ X k) : IsSegX w' B m S :=
  h.keep' t.size (fun k hk => t.block k (h.types hk).2.1 (ha k hk)) fun k c ty e hty => t.block k (ltAt e) fun hx => by
    have := hX k hx _ _ _ e
    rcases hty with e | e
    · exact this.1 e
    · exact this.2.1 e
theorem IsSegX.keep {w w' : World} {B : Nat} {m : SegM} {S : SegD} (h : IsSegX w B m S) (hb : Below w.heap.size w w') : IsSegX w' B m S :=
  h.touch (X := fun _ => False) (touch_new hb) (firm_none w) fun _ _ e => e
theorem IsSegX.lower {w : World} {B B' : Nat} {m : SegM} {S : SegD} (h : IsSegX w B m S) (hB : B' ≤ B) : IsSegX w B' m S := by
  obtain ⟨v, qs, hv, hl, hp, hr, hs⟩ := h.val
  exact ⟨h.few, Nat.le_trans hB h.low, h.cl, h.disk.lower hB, v, qs, hv, hl, hp, ownsRow_low hr hB, hs⟩

/-- Segments, each apart from the others. -/
structure Segs (w : World) (B : Nat) (ss : List SegM) (Ss : List SegD) : Prop where
  len : ss.length = Ss.length
  seg : ∀ (k : Nat) (m : SegM) (S : SegD), ss[k]? = some m → Ss[k]? = some S → IsSegX w B m S
  apart : ∀ (i j : Nat) (m n : SegM), ss[i]? = some m → ss[j]? = some n → i ≠ j → ∀ x, m.on x → ¬ n.on x

def onAll (ss : List SegM) (x : Nat) : Prop := ∃ (k : Nat) (m : SegM), ss[k]? = some m ∧ m.on x

theorem Segs.at {w : World} {B : Nat} {ss : List SegM} {Ss : List SegD} (h : Segs w B ss Ss) {k : Nat} (hk : k < ss.length) : ∃ m S, ss[k]? = some m ∧ Ss[k]? = some S ∧ IsSegX w B m S := by
  have hk' : k < Ss.length := by rw [← h.len]; exact hk
  exact ⟨ss[k], Ss[k], List.getElem?_eq_getElem hk, List.getElem?_eq_getElem hk', h.seg k _ _ (List.getElem?_eq_getElem hk) (List.getElem?_eq_getElem hk')⟩
theorem Segs.isx {w : World} {B : Nat} {ss : List SegM} {Ss : List SegD} (h : Segs w B ss Ss) {k : Nat} {m : SegM} (hk : ss[k]? = some m) : ∃ S, Ss[k]? = some S ∧ IsSegX w B m S := by
  obtain ⟨m', S, h1, h2, h3⟩ := h.at (List.getElem?_eq_some_iff.1 hk).1
  rw [hk] at h1
  cases h1
  exact ⟨S, h2, h3⟩
theorem Segs.firm {w : World} {B : Nat} {ss : List SegM} {Ss : List SegD} (h : Segs w B ss Ss) : Firm w (onAll ss) := fun k ⟨i, m, hi, hk⟩ => (h.isx hi).choose_spec.2.firm k hk
theorem Segs.on {w : World} {B : Nat} {ss : List SegM} {Ss : List SegD} (h : Segs w B ss Ss) {x : Nat} (hx : onAll ss x) : B ≤ x ∧ x < w.heap.size := by
  obtain ⟨i, m, hi, hk⟩ := hx
  obtain ⟨S, -, hS⟩ := h.isx hi
  exact ⟨(hS.types hk).1, (hS.types hk).2.1⟩
theorem Segs.touch {w w' : World} {B : Nat} {ss : List SegM} {Ss : List SegD} {X : Nat → Prop} (h : Segs w B ss Ss) (t : Touch X w w') (hX : Firm w X) (ha : ∀ k, onAll ss k → ¬ X k) : Segs w' B ss Ss :=
  ⟨h.len, fun k m S h1 h2 => (h.seg k m S h1 h2).touch t hX fun x hx => ha x ⟨k, m, h1, hx⟩, h.apart⟩
theorem Segs.keep {w w' : World} {B : Nat} {ss : List SegM} {Ss : List SegD} (h : Segs w B ss Ss) (hb : Below w.heap.size w w') : Segs w' B ss Ss :=
  h.touch (X := fun _ => False) (touch_new hb) (firm_none w) fun _ _ e => e
theorem Segs.lower {w : World} {B B' : Nat} {ss : List SegM} {Ss : List SegD} (h : Segs w B ss Ss) (hB : B' ≤ B) : Segs w B' ss Ss :=
  ⟨h.len, fun k m S h1 h2 => (h.seg k m S h1 h2).lower hB, h.apart⟩
theorem Segs.not_on {w : World} {B : Nat} {ss : List SegM} {Ss : List SegD} (h : Segs w B ss Ss) {k : Nat} {c : Array Value} {t : TypeId} {f : Nat × Nat} (hk : w.heap[k]? = some (.cells c t f)) (ht : t ≠ 144 ∧ t ≠ 177 ∧ t ≠ 129 ∧ t ≠ 9) : ¬ onAll ss k := fun ⟨i, m, hi, e⟩ => by
  obtain ⟨S, -, hS⟩ := h.isx hi
  exact hS.not_on hk ht e
/-- A block of another type, neither a slot nor numbers, may turn. -/
theorem firm_one {w : World} {k : Nat} {c : Array Value} {t : TypeId} {f : Nat × Nat} (hk : w.heap[k]? = some (.cells c t f)) (ht : t ≠ 176 ∧ t ≠ 3 ∧ t ≠ 118) : Firm w fun x => x = k := fun x hx c' t' f' e => by
  rw [hx, hk] at e
  simp only [Option.some.injEq, Obj.cells.injEq] at e
  obtain ⟨-, rfl, -⟩ := e
  exact ht
theorem segs_nil (w : World) (B : Nat) : Segs w B [] [] := ⟨rfl, fun k m S h => by simp at h, fun i j m n h => by simp at h⟩

theorem set_get {α : Type} {l : List α} {k i : Nat} {x y : α} (h : (l.set k x)[i]? = some y) : (i = k ∧ y = x) ∨ (i ≠ k ∧ l[i]? = some y) := by
  rw [List.getElem?_set] at h
  split at h
  · rename_i e
    split at h
    · cases h; exact .inl ⟨e.symm, rfl⟩
    · cases h
  · rename_i e
    exact .inr ⟨fun e' => e e'.symm, h⟩

/-- One of the segments is another one now. -/
theorem Segs.set {w w' : World} {B : Nat} {ss : List SegM} {Ss : List SegD} {X : Nat → Prop} (h : Segs w B ss Ss) {k : Nat} {m m' : SegM} {S' : SegD} (hm : ss[k]? = some m) (t : Touch X w w') (hX : Firm w X) (ha : ∀ i n, ss[i]? = some n → i ≠ k → ∀ x, n.on x → ¬ X x) (hs : IsSegX w' B m' S') (hn : ∀ x, m'.on x → m.on x ∨ w.heap.size ≤ x) :
    Segs w' B (ss.set k m') (Ss.set k S') := by
  refine ⟨by simp [h.len], fun i n S h1 h2 => ?_, fun i j n n' h1 h2 hij x hx hx' => ?_⟩
  · rcases set_get h1 with ⟨rfl, rfl⟩ | ⟨hi, h1⟩
    · rcases set_get h2 with ⟨-, rfl⟩ | ⟨h, -⟩
      · exact hs
      · exact absurd rfl h
    · rcases set_get h2 with ⟨h, -⟩ | ⟨-, h2⟩
      · exact absurd h hi
      · exact (h.seg i n S h1 h2).touch t hX (ha i n h1 hi)
  · rcases set_get h1 with ⟨rfl, rfl⟩ | ⟨hi, g1⟩ <;> rcases set_get h2 with ⟨rfl, rfl⟩ | ⟨hj, g2⟩
    · exact hij rfl
    · rcases hn x hx with e | e
      · exact h.apart _ _ _ _ hm g2 hij x e hx'
      · have := (h.on ⟨j, n', g2, hx'⟩).2
        omega
    · rcases hn x hx' with e | e
      · exact h.apart _ _ _ _ g1 hm hij x hx e
      · have := (h.on ⟨i, n, g1, hx⟩).2
        omega
    · exact h.apart _ _ _ _ g1 g2 hij x hx hx'

/-- One more segment. -/
theorem Segs.push {w w' : World} {B : Nat} {ss : List SegM} {Ss : List SegD} {X : Nat → Prop} (h : Segs w B ss Ss) {m' : SegM} {S' : SegD} (t : Touch X w w') (hX : Firm w X) (ha : ∀ k, onAll ss k → ¬ X k) (hs : IsSegX w' B m' S') (hn : ∀ x, m'.on x → ¬ onAll ss x) :
    Segs w' B (ss ++ [m']) (Ss ++ [S']) := by
  have hlen := h.len
  have get : ∀ {α : Type} {l : List α} {x y : α} {i : Nat}, (l ++ [x])[i]? = some y → l[i]? = some y ∨ (i = l.length ∧ y = x) := by
    intro α l x y i e
    rw [List.getElem?_append] at e
    split at e
    · exact .inl e
    · rename_i hl
      obtain ⟨h0, e⟩ := List.getElem?_eq_some_iff.1 e
      have h0' : i - l.length < 1 := by simpa using h0
      have : i = l.length := by omega
      subst this
      simp at e
      exact .inr ⟨rfl, e.symm⟩
  refine ⟨by simp [hlen], fun i n S h1 h2 => ?_, fun i j n n' h1 h2 hij x hx hx' => ?_⟩
  · rcases get h1 with h1 | ⟨e1, rfl⟩
    · rcases get h2 with h2 | ⟨e2, rfl⟩
      · exact (h.seg i n S h1 h2).touch t hX fun x hx => ha x ⟨i, n, h1, hx⟩
      · have := (List.getElem?_eq_some_iff.1 h1).1; omega
    · rcases get h2 with h2 | ⟨e2, rfl⟩
      · have := (List.getElem?_eq_some_iff.1 h2).1; omega
      · exact hs
  · rcases get h1 with g1 | ⟨e1, rfl⟩ <;> rcases get h2 with g2 | ⟨e2, rfl⟩
    · exact h.apart _ _ _ _ g1 g2 hij x hx hx'
    · exact hn x hx' ⟨i, n, g1, hx⟩
    · exact hn x hx ⟨j, n', g2, hx'⟩
    · exact hij (e1.trans e2.symm)

/-- A segment goes on: the others are as they were. -/
theorem Segs.goes {w w' : World} {B : Nat} {ss : List SegM} {Ss : List SegD} (h : Segs w B ss Ss) {k : Nat} {m : SegM} {S' : SegD} (hm : ss[k]? = some m) (g : Goes B m S' w w') :
    ∃ m', Segs w' B (ss.set k m') (Ss.set k S') ∧ m'.p = m.p ∧ m'.dp = m.dp ∧ Touch m.on w w' ∧ (∀ x, m'.on x → m.on x ∨ w.heap.size ≤ x) := by
  obtain ⟨m', h1, h2, hc, h3, h4, h5⟩ := g
  obtain ⟨S, -, hS⟩ := h.isx hm
  exact ⟨m', h.set hm h4 hS.firm (fun i n hi hne x hx hx' => h.apart i k n m hi hm hne x hx hx') h3.x h5, h1, h2, h4, h5⟩

/-- Which segments there are, by their pointers. -/
def ptrs (ss : List SegM) : List Nat := ss.map (·.p)
theorem ptrs_get {ss : List SegM} {k : Nat} {m : SegM} (h : ss[k]? = some m) : (ptrs ss)[k]? = some m.p := by simp [ptrs, h]
theorem ptrs_set {ss : List SegM} {k : Nat} {m m' : SegM} (h : ss[k]? = some m) (he : m'.p = m.p) : ptrs (ss.set k m') = ptrs ss := by
  apply List.ext_getElem?
  intro i
  unfold ptrs
  rw [List.getElem?_map, List.getElem?_map, List.getElem?_set]
  split
  · rename_i e
    subst e
    split
    · rw [h]; simp [he]
    · rename_i hn
      exact absurd (List.getElem?_eq_some_iff.1 h).1 hn
  · rfl

end Go.Proofs.YtjbjjfndkpcciaaGreatDoor

/- Logs: what they are, in memory and apart from it. Own work; no statement. -/
set_option linter.unusedSimpArgs false
set_option linter.unusedVariables false
namespace Go.Proofs.YtjbjjfndkpcciaaGreatDoor
open Go.RowKit Go.Shelf Go.Sort

/-- A line of a log's own disk: a trim, or a map. -/
abbrev OwnOp := Sum (Int × List Int) MapD
abbrev OwnOp.trim (pos : Int) (v : List Int) : OwnOp := .inl (pos, v)
abbrev OwnOp.map (m : MapD) : OwnOp := .inr m

def textO : OwnOp → ByteArray
  | .inl (p, v) => ⟨(116 :: 32 :: (Lib.itoa p ++ 32 :: textL v)).toArray⟩
  | .inr m => ⟨(109 :: 32 :: textM m).toArray⟩

/-- What the own disk tells: map, trim, what is gone. -/
abbrev OwnSt := MapD × Int × List Int
def stepO (s : OwnSt) : OwnOp → OwnSt
  | .inl (p, v) => (s.1, p, v.take (writtenL v))
  | .inr m => (m, s.2.1, s.2.2)
def mayO (s : OwnSt) : OwnOp → Prop
  | .inl (p, v) => s.2.1 ≤ p ∧ p ≤ 2147483647 ∧ InS v ∧ v.length ≤ 8
  | .inr m => okMap m = true ∧ MapS m
def runO (s : OwnSt) : List OwnOp → OwnSt
  | [] => s
  | o :: r => runO (stepO s o) r
def OkOps (s : OwnSt) : List OwnOp → Prop
  | [] => True
  | o :: r => mayO s o ∧ OkOps (stepO s o) r

theorem runO_snoc : ∀ (l : List OwnOp) (s : OwnSt) (o : OwnOp), runO s (l ++ [o]) = stepO (runO s l) o
  | [], _, _ => rfl
  | x :: r, s, o => runO_snoc r (stepO s x) o
theorem okOps_snoc : ∀ (l : List OwnOp) (s : OwnSt) (o : OwnOp), OkOps s l → mayO (runO s l) o → OkOps s (l ++ [o])
  | [], _, _, _, h => ⟨h, trivial⟩
  | x :: r, s, o, h, k => ⟨h.1, okOps_snoc r (stepO s x) o h.2 k⟩
theorem runO_take (l : List OwnOp) (s : OwnSt) (k : Nat) (h : k < l.length) : runO s (l.take (k + 1)) = stepO (runO s (l.take k)) l[k] := by
  rw [List.take_add_one, List.getElem?_eq_getElem h, Option.toList_some, runO_snoc]
theorem okOps_get : ∀ (l : List OwnOp) (s : OwnSt) (k : Nat) (h : k < l.length), OkOps s l → mayO (runO s (l.take k)) l[k]
  | x :: r, s, 0, _, hk => hk.1
  | x :: r, s, k + 1, h, hk => okOps_get r (stepO s x) k (by simpa using h) hk.2

structure LogD where
  room : Int
  ops : List OwnOp
  segs : List SegD
  map : MapD
  down : Bool
  trim : Int
  gone : List Int
  head : Int
  next : Int

def LogD.own (L : LogD) : DiskD := ⟨L.room, L.ops.map textO, L.ops.length⟩
def LogD.st0 (L : LogD) : OwnSt := (L.map.take 1, 0, [])

/-- The stripe of a position, its segment. -/
def LogD.k (L : LogD) (pos : Int) : Nat := (findM L.map pos).2.1.toNat
def noSeg : SegD := ⟨⟨0, [], 0⟩, 0, 0, []⟩
def LogD.at (L : LogD) (pos : Int) : SegD := L.segs.getD (L.k pos) noSeg

/-- What stands in a log of any kind. -/
structure LogD.fm (L : LogD) : Prop where
  eight : L.segs.length = 8
  ok : okMap L.map = true
  mapS : MapS L.map
  few : L.map.length ≤ L.ops.length + 1
  trim0 : 0 ≤ L.trim
  head0 : L.trim ≤ L.head
  next0 : L.head ≤ L.next
  next1 : L.next ≤ 2147483648
  inS : InS L.gone
  gone8 : L.gone.length ≤ 8
  ops : OkOps L.st0 L.ops
  run : (runO L.st0 L.ops).1 = L.map

/-- It is up. -/
structure LogD.up (L : LogD) : Prop where
  not : L.down = false
  ok : ∀ S ∈ L.segs, S.ok

structure LogM where
  p : Nat
  dp : Nat
  dg : Option Nat
  ss : List SegM

def LogM.on (m : LogM) (x : Nat) : Prop := x = m.p ∨ onDisk m.dp m.dg x ∨ onAll m.ss x

def logCells (dp : Nat) (qs : List Nat) (vs vg : Value) (L : LogD) : Array Value :=
  #[ptrV dp, ptrV (qs.getD 0 0), ptrV (qs.getD 1 0), ptrV (qs.getD 2 0), ptrV (qs.getD 3 0), ptrV (qs.getD 4 0), ptrV (qs.getD 5 0), ptrV (qs.getD 6 0), ptrV (qs.getD 7 0), vs, .bool L.down, .int .i64 L.trim, vg, .int .i64 L.head, .int .i64 L.next]

/-- At block m.p there lies a log. -/
structure IsLog (w : World) (B : Nat) (m : LogM) (L : LogD) : Prop where
  low : B ≤ m.p
  own : IsDisk w B m.dp m.dg L.own
  n8 : m.ss.length = 8
  segs : Segs w B m.ss L.segs
  off : ∀ x, onDisk m.dp m.dg x → ¬ onAll m.ss x
  val : ∃ vs vg, w.heap[m.p]? = some (.cells (logCells m.dp (ptrs m.ss) vs vg L) 87 (0, 0)) ∧ w.ownsRow 0 118 2 vs L.map.length (cellsM L.map) ∧ w.ownsRow 0 3 1 vg L.gone.length (L.gone.map (Value.int .i64))

theorem IsLog.lt {w : World} {B : Nat} {m : LogM} {L : LogD} (h : IsLog w B m L) : m.p < w.heap.size := by
  obtain ⟨vs, vg, hp, -⟩ := h.val
  exact ltAt hp
theorem IsLog.firm {w : World} {B : Nat} {m : LogM} {L : LogD} (h : IsLog w B m L) : Firm w m.on := fun k hk c t f e => by
  obtain ⟨vs, vg, hp, -⟩ := h.val
  rcases hk with rfl | hk | hk
  · rw [hp] at e
    simp only [Option.some.injEq, Obj.cells.injEq] at e
    obtain ⟨-, rfl, -⟩ := e
    exact ⟨by decide, by decide, by decide⟩
  · exact h.own.firm k hk c t f e
  · exact h.segs.firm k hk c t f e
theorem IsLog.on {w : World} {B : Nat} {m : LogM} {L : LogD} (h : IsLog w B m L) {k : Nat} (hk : m.on k) : B ≤ k ∧ k < w.heap.size := by
  rcases hk with rfl | hk | hk
  · exact ⟨h.low, h.lt⟩
  · exact h.own.on hk
  · exact h.segs.on hk
/-- The log's own block is none of its disks' and segments'. -/
theorem IsLog.offp {w : World} {B : Nat} {m : LogM} {L : LogD} (h : IsLog w B m L) : ¬ onDisk m.dp m.dg m.p ∧ ¬ onAll m.ss m.p := by
  obtain ⟨vs, vg, hp, -⟩ := h.val
  refine ⟨fun hk => ?_, fun ⟨i, n, hi, hk⟩ => ?_⟩
  · obtain ⟨c, t, e, ht⟩ := h.own.types hk
    rw [hp] at e
    simp only [Option.some.injEq, Obj.cells.injEq] at e
    obtain ⟨-, rfl, -⟩ := e
    rcases ht with h | h <;> exact absurd h (by decide)
  · obtain ⟨S, -, hS⟩ := h.segs.isx hi
    obtain ⟨-, -, c, t, e, ht⟩ := hS.types hk
    rw [hp] at e
    simp only [Option.some.injEq, Obj.cells.injEq] at e
    obtain ⟨-, rfl, -⟩ := e
    rcases ht with h | h | h | h <;> exact absurd h (by decide)

theorem row_firm {w w' : World} {X : Nat → Prop} {e s : Nat} {v : Value} {n : Nat} {xs : List Value} (h : w.ownsRow 0 e s v n xs) (t : Touch X w w') (hX : Firm w X) (he : e = 118 ∨ e = 3) : w'.ownsRow 0 e s v n xs :=
  ownsRow_of_heap h fun k hk => t.block k (h.lt k hk).2 fun hx => by
    rcases h.2 with ⟨rfl, _⟩ | ⟨g, cap, cur, rfl, _, hg, _⟩
    · cases hk
    · obtain rfl : g = k := by simpa [Value.ownBlock] using hk
      have := hX _ hx _ _ _ hg
      exact he.elim this.2.2 this.2.1
theorem span_firm : 118 = 118 ∨ 118 = 3 := .inl rfl
theorem int_firm : 3 = 118 ∨ 3 = 3 := .inr rfl

theorem IsLog.touch {w w' : World} {B : Nat} {m : LogM} {L : LogD} {X : Nat → Prop} (h : IsLog w B m L) (t : Touch X w w') (hX : Firm w X) (ha : ∀ k, m.on k → ¬ X k) : IsLog w' B m L := by
  obtain ⟨vs, vg, hp, h1, h2⟩ := h.val
  exact ⟨h.low, h.own.touch t fun k hk => ha k (.inr (.inl hk)), h.n8, h.segs.touch t hX fun k hk => ha k (.inr (.inr hk)), h.off, vs, vg, (t.block _ (ltAt hp) (ha _ (.inl rfl))).trans hp, row_firm h1 t hX span_firm, row_firm h2 t hX int_firm⟩
theorem IsLog.keep {w w' : World} {B : Nat} {m : LogM} {L : LogD} (h : IsLog w B m L) (hb : Below w.heap.size w w') : IsLog w' B m L :=
  h.touch (X := fun _ => False) (touch_new hb) (firm_none w) fun _ _ e => e
theorem IsLog.drews {w : World} {B : Nat} {m : LogM} {L : LogD} (h : IsLog w B m L) (n : Nat) : IsLog (w.drewN n) B m L := h.keep (drewsB w n)
theorem IsLog.below {w w' : World} {B : Nat} {m : LogM} {L : LogD} (h : IsLog w B m L) (hB : B ≤ w.heap.size) (t : Touch m.on w w') : Below B w w' := t.below hB fun _ _ e => (h.on e).1

/-- Segments have gone on, the rest of the log is as it was. -/
theorem IsLog.segs_go {w w' : World} {B : Nat} {m : LogM} {L : LogD} {ss : List SegM} {Ss : List SegD} {X : Nat → Prop} (h : IsLog w B m L) (hs : Segs w' B ss Ss) (h8 : ss.length = 8) (hp : ptrs ss = ptrs m.ss) (t : Touch X w w') (hX : ∀ x, X x → onAll m.ss x) (hn : ∀ x, onAll ss x → onAll m.ss x ∨ w.heap.size ≤ x) :
    IsLog w' B { m with ss := ss } { L with segs := Ss } := by
  obtain ⟨vs, vg, hv, h1, h2⟩ := h.val
  have hF : Firm w X := fun k hk c ty f e => h.segs.firm k (hX k hk) c ty f e
  refine ⟨h.low, h.own.touch t fun k hk hx => h.off k hk (hX k hx), h8, hs, fun x hx hy => ?_, vs, vg, ?_, row_firm h1 t hF span_firm, row_firm h2 t hF int_firm⟩
  · rcases hn x hy with e | e
    · exact h.off x hx e
    · have := (h.own.on hx).2
      omega
  · rw [show (({ m with ss := ss } : LogM).p) = m.p from rfl, t.block _ (ltAt hv) fun hx => h.offp.2 (hX _ hx), hv]
    dsimp only
    rw [hp]
    rfl

theorem onAll_set {ss : List SegM} {k : Nat} {m m' : SegM} (hm : ss[k]? = some m) {x : Nat} (h : onAll (ss.set k m') x) : onAll ss x ∨ m'.on x := by
  obtain ⟨i, n, hi, hx⟩ := h
  rcases set_get hi with ⟨rfl, rfl⟩ | ⟨-, hi⟩
  · exact .inr hx
  · exact .inl ⟨i, n, hi, hx⟩
/-- One of its segments has gone on. -/
theorem IsLog.seg_goes {w w' : World} {B : Nat} {m : LogM} {L : LogD} (h : IsLog w B m L) {k : Nat} {s : SegM} {S' : SegD} (hk : m.ss[k]? = some s) (g : Goes B s S' w w') :
    ∃ m', m'.p = m.p ∧ IsLog w' B m' { L with segs := L.segs.set k S' } ∧ Touch m.on w w' ∧ (∀ x, m'.on x → m.on x ∨ w.heap.size ≤ x) := by
  obtain ⟨s', h1, h2, h3, h4, h5⟩ := h.segs.goes hk g
  have hn : ∀ x, onAll (m.ss.set k s') x → onAll m.ss x ∨ w.heap.size ≤ x := fun x hx => by
    rcases onAll_set hk hx with e | e
    · exact .inl e
    · exact (h5 x e).imp (fun e => ⟨k, s, hk, e⟩) id
  have := h.segs_go h1 (by simp [h.n8]) (ptrs_set hk h2) h4 (fun x hx => ⟨k, s, hk, hx⟩) hn
  refine ⟨{ m with ss := m.ss.set k s' }, rfl, this, h4.mono fun x _ hx => .inr (.inr ⟨k, s, hk, hx⟩), fun x hx => ?_⟩
  rcases hx with e | e | e
  · exact .inl (.inl e)
  · exact .inl (.inr (.inl e))
  · exact (hn x e).imp (fun e => .inr (.inr e)) id

/-- The log's own cells are set. -/
theorem IsLog.nums {w W : World} {B : Nat} {m : LogM} {L L' : LogD} (h : IsLog w B m L) (hD : L'.own = L.own) (hS : L'.segs = L.segs) (t : Touch (fun k => k = m.p) w W)
    (hp : ∀ vs vg, w.heap[m.p]? = some (.cells (logCells m.dp (ptrs m.ss) vs vg L) 87 (0, 0)) → w.ownsRow 0 118 2 vs L.map.length (cellsM L.map) → w.ownsRow 0 3 1 vg L.gone.length (L.gone.map (Value.int .i64)) →
      ∃ vs' vg', W.heap[m.p]? = some (.cells (logCells m.dp (ptrs m.ss) vs' vg' L') 87 (0, 0)) ∧ W.ownsRow 0 118 2 vs' L'.map.length (cellsM L'.map) ∧ W.ownsRow 0 3 1 vg' L'.gone.length (L'.gone.map (Value.int .i64))) :
    IsLog W B m L' ∧ Touch m.on w W := by
  obtain ⟨vs, vg, hv, h1, h2⟩ := h.val
  have hF : Firm w (fun k => k = m.p) := fun k hk c ty f e => h.firm k (.inl hk) c ty f e
  refine ⟨⟨h.low, ?_, h.n8, ?_, h.off, hp vs vg hv h1 h2⟩, t.mono fun k _ e => .inl e⟩
  · rw [hD]
    exact h.own.touch t fun k hk e => h.offp.1 (e ▸ hk)
  · rw [hS]
    exact h.segs.touch t hF fun k hk e => h.offp.2 (e ▸ hk)
theorem row_p {w W : World} {B : Nat} {m : LogM} {L : LogD} (h : IsLog w B m L) (t : Touch (fun k => k = m.p) w W) {e s : Nat} {v : Value} {n : Nat} {xs : List Value} (hr : w.ownsRow 0 e s v n xs) (he : e = 118 ∨ e = 3) : W.ownsRow 0 e s v n xs :=
  row_firm hr t (fun k hk c ty f e => h.firm k (.inl hk) c ty f e) he

/-- A log has gone on from w to w', and is L' now. -/
def LogGoes (B : Nat) (m : LogM) (L' : LogD) (w w' : World) : Prop := ∃ m', m'.p = m.p ∧ IsLog w' B m' L' ∧ Touch m.on w w' ∧ (∀ x, m'.on x → m.on x ∨ w.heap.size ≤ x)

theorem LogGoes.of_below {B : Nat} {m : LogM} {L : LogD} {a b c : World} (h : LogGoes B m L b c) (hb : Below a.heap.size a b) : LogGoes B m L a c := by
  obtain ⟨m', h1, h3, h4, h5⟩ := h
  exact ⟨m', h1, h3, h4.of_touch hb, fun k hk => (h5 k hk).imp id fun h => Nat.le_trans hb.size h⟩
theorem LogGoes.new {B : Nat} {m : LogM} {L : LogD} {a b c : World} (h : LogGoes B m L a b) (hb : Below b.heap.size b c) : LogGoes B m L a c := by
  obtain ⟨m', h1, h3, h4, h5⟩ := h
  exact ⟨m', h1, h3.keep hb, h4.new hb, h5⟩
theorem logGoes_same {B : Nat} {m : LogM} {L : LogD} {w w' : World} (h : IsLog w B m L) (hb : Below w.heap.size w w') : LogGoes B m L w w' := ⟨m, rfl, h.keep hb, touch_new hb, fun _ h => .inl h⟩
/-- It goes on, and on. -/
theorem LogGoes.then {B : Nat} {m m' : LogM} {L2 : LogD} {a b c : World} (hp : m'.p = m.p) (t : Touch m.on a b) (hn : ∀ x, m'.on x → m.on x ∨ a.heap.size ≤ x) (g : LogGoes B m' L2 b c) : LogGoes B m L2 a c := by
  obtain ⟨m2, h1, h3, h4, h5⟩ := g
  refine ⟨m2, h1.trans hp, h3, t.next h4 fun i hi hx => ?_, fun x hx => ?_⟩
  · rcases hn i hx with e | e
    · exact e
    · omega
  · rcases h5 x hx with e | e
    · exact hn x e
    · exact .inr (Nat.le_trans t.size e)

theorem IsLog.cells {w : World} {B : Nat} {m : LogM} {L : LogD} (h : IsLog w B m L) : ∃ vs vg, w.ownsRow 0 118 2 vs L.map.length (cellsM L.map) ∧ w.ownsRow 0 3 1 vg L.gone.length (L.gone.map (Value.int .i64)) ∧
    w.cell? ⟨m.p, 0, none⟩ = some (.pointer (some ⟨m.dp, 0, none⟩)) ∧ w.cell? ⟨m.p, 9, none⟩ = some vs ∧ w.cell? ⟨m.p, 10, none⟩ = some (.bool L.down) ∧ w.cell? ⟨m.p, 11, none⟩ = some (.int .i64 L.trim) ∧ w.cell? ⟨m.p, 12, none⟩ = some vg ∧ w.cell? ⟨m.p, 13, none⟩ = some (.int .i64 L.head) ∧ w.cell? ⟨m.p, 14, none⟩ = some (.int .i64 L.next) ∧
    (∀ j, w.frozen? ⟨m.p, j, none⟩ = false) ∧ w.heap[m.p]? = some (.cells (logCells m.dp (ptrs m.ss) vs vg L) 87 (0, 0)) := by
  obtain ⟨vs, vg, hp, h1, h2⟩ := h.val
  exact ⟨vs, vg, h1, h2, by simpa [logCells, ptrV] using cellsAt hp 0, by simpa [logCells] using cellsAt hp 9, by simpa [logCells] using cellsAt hp 10, by simpa [logCells] using cellsAt hp 11, by simpa [logCells] using cellsAt hp 12, by simpa [logCells] using cellsAt hp 13, by simpa [logCells] using cellsAt hp 14, fun j => frozenAt hp j, hp⟩
theorem IsLog.segCell {w : World} {B : Nat} {m : LogM} {L : LogD} (h : IsLog w B m L) {k : Nat} {s : SegM} (hk : m.ss[k]? = some s) : w.cell? ⟨m.p, 1 + k, none⟩ = some (.pointer (some ⟨s.p, 0, none⟩)) := by
  obtain ⟨vs, vg, hp, -⟩ := h.val
  have h8 := h.n8
  have hlt := (List.getElem?_eq_some_iff.1 hk).1
  have hg : (ptrs m.ss).getD k 0 = s.p := by rw [List.getD_eq_getElem?_getD, ptrs_get hk]; rfl
  rw [cellsAt hp (1 + k)]
  rw [h8] at hlt
  match k, hlt, hg with
  | 0, _, hg => rw [← hg]; rfl
  | 1, _, hg => rw [← hg]; rfl
  | 2, _, hg => rw [← hg]; rfl
  | 3, _, hg => rw [← hg]; rfl
  | 4, _, hg => rw [← hg]; rfl
  | 5, _, hg => rw [← hg]; rfl
  | 6, _, hg => rw [← hg]; rfl
  | 7, _, hg => rw [← hg]; rfl

end Go.Proofs.YtjbjjfndkpcciaaGreatDoor

/- A log's small calls; Get, Put. Own work; no statement. -/
set_option linter.unusedSimpArgs false
set_option linter.unusedVariables false
namespace Go.Proofs.YtjbjjfndkpcciaaGreatDoor
open Go.RowKit Go.Shelf Go.Sort

theorem logHead_calls (B : Nat) (m : LogM) (L : LogD) (w : World) (hd : IsLog w B m L) :
    Calls Tryz.prog 20 #[.pointer (some ⟨m.p, 0, none⟩)] w fun e w' => e = .returned (.int .i64 L.head) ∧ w' = w := by
  obtain ⟨vs, vg, -, -, -, -, -, -, -, c13, -, -, -⟩ := hd.cells
  clear hd
  go_enter Tryz.func20, Tryz.ntmps20
  go_wp2_with fail
  go_ret
  exact ⟨rfl, rfl⟩
theorem logNext_calls (B : Nat) (m : LogM) (L : LogD) (w : World) (hd : IsLog w B m L) :
    Calls Tryz.prog 22 #[.pointer (some ⟨m.p, 0, none⟩)] w fun e w' => e = .returned (.int .i64 L.next) ∧ w' = w := by
  obtain ⟨vs, vg, -, -, -, -, -, -, -, -, c14, -, -⟩ := hd.cells
  clear hd
  go_enter Tryz.func22, Tryz.ntmps22
  go_wp2_with fail
  go_ret
  exact ⟨rfl, rfl⟩
theorem logDown_calls (B : Nat) (m : LogM) (L : LogD) (w : World) (hd : IsLog w B m L) :
    Calls Tryz.prog 36 #[.pointer (some ⟨m.p, 0, none⟩)] w fun e w' => e = .returned (.bool L.down) ∧ w' = w := by
  obtain ⟨vs, vg, -, -, -, -, c10, -, -, -, -, -, -⟩ := hd.cells
  clear hd
  go_enter Tryz.func36, Tryz.ntmps36
  go_wp2_with fail
  go_ret
  exact ⟨rfl, rfl⟩
theorem logEpoch_calls (B : Nat) (m : LogM) (L : LogD) (w : World) (hd : IsLog w B m L) :
    Calls Tryz.prog 29 #[.pointer (some ⟨m.p, 0, none⟩)] w fun e w' => e = .returned (.int .i64 (L.map.length : Int)) ∧ w' = w := by
  obtain ⟨vs, vg, r1, -, -, c9, -, -, -, -, -, -, -⟩ := hd.cells
  obtain ⟨a, cap, rfl⟩ := ownsRow_slice r1
  clear hd r1
  go_enter Tryz.func29, Tryz.ntmps29
  go_wp2_with fail
  go_ret
  exact ⟨rfl, rfl⟩
/-- How many stripes the last epoch has. -/
def stripesM (m : MapD) : Int := (m.getD (m.length - 1) (0, 0)).2
theorem logStripes_calls (B : Nat) (m : LogM) (L : LogD) (w : World) (hd : IsLog w B m L) (h0 : 0 < L.map.length) (hl : L.map.length ≤ 1099511627776) :
    Calls Tryz.prog 28 #[.pointer (some ⟨m.p, 0, none⟩)] w fun e w' => e = .returned (.int .i64 (stripesM L.map)) ∧ ∃ n, w' = w.drewN n := by
  obtain ⟨vs, vg, r1, -, -, c9, -, -, -, -, -, -, -⟩ := hd.cells
  obtain ⟨a, cap, rfl⟩ := ownsRow_slice r1
  obtain ⟨-, b, o, rfl, hb, c0, c1⟩ := (OwnsM.map r1).at (L.map.length - 1) (by omega)
  unfold stripesM
  clear hd r1 c0
  generalize (L.map.getD (L.map.length - 1) (0, 0)).2 = N at *
  generalize L.map.length = n at *
  obtain ⟨k, rfl⟩ : ∃ k, n = k + 1 := ⟨n - 1, by omega⟩
  simp only [Nat.add_sub_cancel] at c1 ⊢
  have hk : ((k + 1 : Nat) : Int) - 1 = (k : Int) := by omega
  go_enter Tryz.func28, Tryz.ntmps28
  go_wp2_with fail
  go_quiet (fail)
  go_wp2_with fail
  go_ret
  exact ⟨rfl, _, rfl⟩

theorem LogD.fm.k8 {L : LogD} (h : L.fm) {pos : Int} (h0 : 0 ≤ pos) : L.k pos < 8 ∧ (findM L.map pos).2.1 = (L.k pos : Int) := by
  have he := epochM_pos (pos := pos) h.ok h0 L.map.length (okMap_pos h.ok)
  have hel := epochM_le L.map pos L.map.length
  have hN := okMap_get h.ok (epochM L.map pos L.map.length - 1) (by omega)
  have hg : L.map.getD (epochM L.map pos L.map.length - 1) (0, 0) = L.map[epochM L.map pos L.map.length - 1]'(by omega) := by rw [List.getD_eq_getElem?_getD, List.getElem?_eq_getElem (by omega)]; rfl
  unfold LogD.k findM
  rw [if_pos ⟨h0, h.ok⟩]
  dsimp only
  rw [hg]
  generalize L.map[epochM L.map pos L.map.length - 1]'(by omega) = x at *
  have h1 := Int.emod_nonneg (pos - x.1) (show x.2 ≠ 0 by omega)
  have h2 := Int.emod_lt_of_pos (pos - x.1) (show 0 < x.2 by omega)
  omega
theorem LogD.fm.at {L : LogD} (h : L.fm) {pos : Int} (h0 : 0 ≤ pos) : L.segs[L.k pos]? = some (L.at pos) := by
  have := (h.k8 h0).1
  have h8 := h.eight
  unfold LogD.at
  rw [List.getD_eq_getElem?_getD, List.getElem?_eq_getElem (by omega)]
  rfl
theorem IsLog.few {w : World} {B : Nat} {m : LogM} {L : LogD} (h : IsLog w B m L) (hf : L.fm) : L.ops.length ≤ 1048576 ∧ L.map.length ≤ 1048577 := by
  have h1 := h.own.len.1
  have h2 := hf.few
  unfold LogD.own at h1
  simp at h1
  omega
/-- The segment of a position, in memory. -/
theorem IsLog.segAt {w : World} {B : Nat} {m : LogM} {L : LogD} (h : IsLog w B m L) (hf : L.fm) (hu : L.up) {pos : Int} (h0 : 0 ≤ pos) : ∃ s, m.ss[L.k pos]? = some s ∧ IsSeg w B s (L.at pos) := by
  obtain ⟨s, S, h1, h2, h3⟩ := h.segs.at (k := L.k pos) (by rw [h.n8]; exact (hf.k8 h0).1)
  rw [hf.at h0] at h2
  cases h2
  exact ⟨s, h1, h3.seg (hu.ok _ (List.mem_of_getElem? (hf.at h0)))⟩

set_option maxHeartbeats 1000000 in
theorem logAt_calls (B : Nat) (m : LogM) (L : LogD) (pos : Int) (s : SegM) (w : World) (hd : IsLog w B m L) (hf : L.fm) (h0 : 0 ≤ pos) (h1 : pos ≤ 9223372036854775807) (hs : m.ss[L.k pos]? = some s) :
    Calls Tryz.prog 65 #[.pointer (some ⟨m.p, 0, none⟩), .int .i64 pos] w fun e w' => e = .returned (.pointer (some ⟨s.p, 0, none⟩)) ∧ Below w.heap.size w w' := by
  have hfew := hd.few hf
  obtain ⟨vs, vg, r1, -, -, c9, -, -, -, -, -, -, -⟩ := hd.cells
  obtain ⟨a, cap, rfl⟩ := ownsRow_slice r1
  have C := hide (mapFind_calls _ L.map pos w (OwnsM.map r1) (by omega) h1)
  obtain ⟨hk, hke⟩ := hf.k8 h0
  have hc := hd.segCell hs
  have hlt := hd.lt
  obtain ⟨e, k, e', hx⟩ : ∃ e k e', findM L.map pos = (e, k, e') := ⟨_, _, _, rfl⟩
  rw [hx] at C hke
  dsimp only at C hke
  subst hke
  generalize L.k pos = k at *
  have hkI : (k : Int) < 8 := by omega
  clear hd r1 hs hx hfew hf
  go_enter Tryz.func65, Tryz.ntmps65
  go_wp2_with fail
  refine C.out.mono ?_
  rintro x w1 ⟨rfl, hB⟩
  have hc1 := (hB.cell (p := ⟨m.p, 1 + k, none⟩) hlt).trans hc
  go_wp2_with fail
  go_ret
  exact ⟨rfl, hB⟩

/-! The log's own cells are set. -/
theorem IsLog.set_next {w : World} {B : Nat} {m : LogM} {L : LogD} (h : IsLog w B m L) (n : Int) : IsLog (w.setCell ⟨m.p, 14, none⟩ (.int .i64 n)) B m { L with next := n } ∧ Touch m.on w (w.setCell ⟨m.p, 14, none⟩ (.int .i64 n)) :=
  h.nums rfl rfl (touch_set w _ _ rfl) fun vs vg hv h1 h2 => ⟨vs, vg, by simpa [logCells] using setAt (j := 14) hv (.int .i64 n), row_p h (touch_set w _ _ rfl) h1 span_firm, row_p h (touch_set w _ _ rfl) h2 int_firm⟩
theorem IsLog.set_head {w : World} {B : Nat} {m : LogM} {L : LogD} (h : IsLog w B m L) (n : Int) : IsLog (w.setCell ⟨m.p, 13, none⟩ (.int .i64 n)) B m { L with head := n } ∧ Touch m.on w (w.setCell ⟨m.p, 13, none⟩ (.int .i64 n)) :=
  h.nums rfl rfl (touch_set w _ _ rfl) fun vs vg hv h1 h2 => ⟨vs, vg, by simpa [logCells] using setAt (j := 13) hv (.int .i64 n), row_p h (touch_set w _ _ rfl) h1 span_firm, row_p h (touch_set w _ _ rfl) h2 int_firm⟩
theorem IsLog.set_trim {w : World} {B : Nat} {m : LogM} {L : LogD} (h : IsLog w B m L) (n : Int) : IsLog (w.setCell ⟨m.p, 11, none⟩ (.int .i64 n)) B m { L with trim := n } ∧ Touch m.on w (w.setCell ⟨m.p, 11, none⟩ (.int .i64 n)) :=
  h.nums rfl rfl (touch_set w _ _ rfl) fun vs vg hv h1 h2 => ⟨vs, vg, by simpa [logCells] using setAt (j := 11) hv (.int .i64 n), row_p h (touch_set w _ _ rfl) h1 span_firm, row_p h (touch_set w _ _ rfl) h2 int_firm⟩
theorem IsLog.set_down {w : World} {B : Nat} {m : LogM} {L : LogD} (h : IsLog w B m L) (b : Bool) : IsLog (w.setCell ⟨m.p, 10, none⟩ (.bool b)) B m { L with down := b } ∧ Touch m.on w (w.setCell ⟨m.p, 10, none⟩ (.bool b)) :=
  h.nums rfl rfl (touch_set w _ _ rfl) fun vs vg hv h1 h2 => ⟨vs, vg, by simpa [logCells] using setAt (j := 10) hv (.bool b), row_p h (touch_set w _ _ rfl) h1 span_firm, row_p h (touch_set w _ _ rfl) h2 int_firm⟩
theorem IsLog.set_gone {w : World} {B : Nat} {m : LogM} {L : LogD} (h : IsLog w B m L) (v : Value) (l : List Int) (hr : w.ownsRow 0 3 1 v l.length (l.map (Value.int .i64))) : IsLog (w.setCell ⟨m.p, 12, none⟩ v) B m { L with gone := l } ∧ Touch m.on w (w.setCell ⟨m.p, 12, none⟩ v) :=
  h.nums rfl rfl (touch_set w _ _ rfl) fun vs vg hv h1 h2 => ⟨vs, v, by simpa [logCells] using setAt (j := 12) hv v, row_p h (touch_set w _ _ rfl) h1 span_firm, row_p h (touch_set w _ _ rfl) hr int_firm⟩
theorem IsLog.set_map {w : World} {B : Nat} {m : LogM} {L : LogD} (h : IsLog w B m L) (v : Value) (l : MapD) (hr : w.ownsRow 0 118 2 v l.length (cellsM l)) : IsLog (w.setCell ⟨m.p, 9, none⟩ v) B m { L with map := l } ∧ Touch m.on w (w.setCell ⟨m.p, 9, none⟩ v) :=
  h.nums rfl rfl (touch_set w _ _ rfl) fun vs vg hv h1 h2 => ⟨v, vg, by simpa [logCells] using setAt (j := 9) hv v, row_p h (touch_set w _ _ rfl) hr span_firm, row_p h (touch_set w _ _ rfl) h2 int_firm⟩

end Go.Proofs.YtjbjjfndkpcciaaGreatDoor

/- A log's Get, Put. Own work; no statement. -/
set_option linter.unusedSimpArgs false
set_option linter.unusedVariables false
namespace Go.Proofs.YtjbjjfndkpcciaaGreatDoor
open Go.RowKit Go.Shelf Go.Sort

/-- What a log tells at a position, and which error. -/
def LogD.get (L : LogD) (pos : Int) : RecD × Int :=
  if L.down = true then (zeroR, 11) else if pos < 0 then (zeroR, 1) else if pos < L.trim then (zeroR, 8) else if L.next ≤ pos then (zeroR, 9) else getS (L.at pos) pos

set_option maxHeartbeats 4000000 in
set_option maxRecDepth 100000 in
theorem logGet_calls (B : Nat) (m : LogM) (L : LogD) (pos : Int) (w : World) (hd : IsLog w B m L) (hf : L.fm) (hu : L.down = false → L.up) (hp1 : pos ≤ 9223372036854775807) :
    Calls Tryz.prog 23 #[.pointer (some ⟨m.p, 0, none⟩), .int .i64 pos] w fun e w' => ∃ v, e = .returned (.tuple #[v, .int .i64 (L.get pos).2]) ∧ OwnRec w.heap.size w' v (L.get pos).1 ∧ Below w.heap.size w w' := by
  have HB := box_below w (.cells #[.int .i64 0, .int .i64 0, .slice none 0 0, .string ⟨#[]⟩, .string ⟨#[]⟩] 36)
  obtain ⟨W1, hW1⟩ : ∃ W1, w.alloc (.cells #[.int .i64 0, .int .i64 0, .slice none 0 0, .string ⟨#[]⟩, .string ⟨#[]⟩] 36) = W1 := ⟨_, rfl⟩
  have x0 : W1.heap[w.heap.size]? = some (.cells #[.int .i64 0, .int .i64 0, .slice none 0 0, .string ⟨#[]⟩, .string ⟨#[]⟩] 36 (0, 0)) := by rw [← hW1]; exact World.alloc_heap_new w _
  rw [hW1] at HB
  have hd1 := hd.keep HB
  obtain ⟨vs, vg, -, -, -, -, c10, c11, -, -, c14, -, -⟩ := hd1.cells
  obtain ⟨k0, k1, k2, k3, k4, g0, g1, g2, g3, g4⟩ := cells5 x0
  have HW := hide hW1
  have X0 := hide x0
  have hlt := hd.lt
  obtain ⟨_, _, -, -, -, -, e10, e11, -, -, e14, -, -⟩ := hd.cells
  clear hd x0 hW1
  unfold LogD.get
  by_cases h1 : L.down = true
  · rw [if_pos h1]
    rw [h1] at c10 e10
    clear hd1
    go_enter Tryz.func23, Tryz.ntmps23
    go_wp2_with fail
    rw [HW.out]
    exact bodyPost_ret (v := .tuple #[.agg #[.int .i64 0, .int .i64 0, .slice none 0 0, .string ⟨#[]⟩, .string ⟨#[]⟩], .int .i64 11]) (by simp [results, Tryz.f23, go_sem, k0, k1, k2, k3, k4]) rfl ⟨_, rfl, zero_own _ _, HB⟩
  · rw [if_neg h1]
    have h1' : L.down = false := by simpa using h1
    have hu := hu h1'
    rw [h1'] at c10 e10
    by_cases h2 : pos < 0
    · rw [if_pos h2]
      clear hd1
      go_enter Tryz.func23, Tryz.ntmps23
      go_wp2_with fail
      rw [HW.out]
      exact bodyPost_ret (v := .tuple #[.agg #[.int .i64 0, .int .i64 0, .slice none 0 0, .string ⟨#[]⟩, .string ⟨#[]⟩], .int .i64 1]) (by simp [results, Tryz.f23, go_sem, k0, k1, k2, k3, k4]) rfl ⟨_, rfl, zero_own _ _, HB⟩
    · rw [if_neg h2]
      by_cases h3 : pos < L.trim
      · rw [if_pos h3]
        clear hd1
        go_enter Tryz.func23, Tryz.ntmps23
        go_wp2_with fail
        rw [HW.out]
        exact bodyPost_ret (v := .tuple #[.agg #[.int .i64 0, .int .i64 0, .slice none 0 0, .string ⟨#[]⟩, .string ⟨#[]⟩], .int .i64 8]) (by simp [results, Tryz.f23, go_sem, k0, k1, k2, k3, k4]) rfl ⟨_, rfl, zero_own _ _, HB⟩
      · rw [if_neg h3]
        by_cases h4 : L.next ≤ pos
        · rw [if_pos h4]
          clear hd1
          go_enter Tryz.func23, Tryz.ntmps23
          go_wp2_with fail
          rw [HW.out]
          exact bodyPost_ret (v := .tuple #[.agg #[.int .i64 0, .int .i64 0, .slice none 0 0, .string ⟨#[]⟩, .string ⟨#[]⟩], .int .i64 9]) (by simp [results, Tryz.f23, go_sem, k0, k1, k2, k3, k4]) rfl ⟨_, rfl, zero_own _ _, HB⟩
        · rw [if_neg h4]
          obtain ⟨s, hs, hS⟩ := hd1.segAt hf hu (pos := pos) (by omega)
          have C1 := hide (logAt_calls B m L pos s W1 hd1 hf (by omega) hp1 hs)
          have C2 := hide (fun W (h : Below W1.heap.size W1 W) => segGet_calls B s (L.at pos) pos W (hS.keep h))
          generalize getS (L.at pos) pos = gr at *
          clear hd1 hS hs hu hf
          go_enter Tryz.func23, Tryz.ntmps23
          go_wp2_with fail
          rw [HW.out]
          refine C1.out.mono ?_
          rintro e w2 ⟨rfl, b2⟩
          go_wp2_with fail
          refine (C2.out _ b2).mono ?_
          rintro e w3 ⟨v, rfl, ⟨vd, rfl, hown⟩, b3⟩
          have Z3 := keepB (keepB X0.out b2) b3
          have B3 := HB.trans ((b2.trans (b3.mono b2.size)).mono HB.size)
          have hsz := b2.size
          have hsz1 := ltAt X0.out
          obtain ⟨a', cap', rfl⟩ := ownsRow_slice hown
          obtain ⟨z0, z1, z2, z3, z4, y0, y1, y2, y3, y4⟩ := cells5 Z3
          have Hown := hide hown
          have HZ3 := hide Z3
          clear C1 C2 c10 c11 c14 k0 k1 k2 k3 k4 g0 g1 g2 g3 g4 b2 b3 Z3 hown e10 e11 e14
          go_wp2_with fail
          obtain ⟨r, ge⟩ := gr
          dsimp only at *
          obtain ⟨W2, hW2⟩ : ∃ W2, put5 w3 w.heap.size (.int .i64 r.site) (.int .i64 r.seq) (.slice a' r.dep.length cap') (.string r.key) (.string r.val) = W2 := ⟨_, rfl⟩
          have e2 := put5_heap HZ3.out (.int .i64 r.site) (.int .i64 r.seq) (.slice a' r.dep.length cap') (.string r.key) (.string r.val)
          have hB2 := put5_below B3 (Nat.le_refl _) (.int .i64 r.site) (.int .i64 r.seq) (.slice a' r.dep.length cap') (.string r.key) (.string r.val)
          have hoth : ∀ k, k ≠ w.heap.size → W2.heap[k]? = w3.heap[k]? := fun k hk => by rw [← hW2]; exact put5_other k hk _ _ _ _ _
          rw [hW2] at e2 hB2
          unfold put5 at hW2
          rw [hW2]
          clear hW2 z0 z1 z2 z3 z4 y0 y1 y2 y3 y4
          obtain ⟨k0, k1, k2, k3, k4, -, -, -, -, -⟩ := cells5 e2
          refine bodyPost_ret (v := .tuple #[.agg #[.int .i64 r.site, .int .i64 r.seq, .slice a' r.dep.length cap', .string r.key, .string r.val], .int .i64 ge]) (by simp [results, Tryz.f23, go_sem, k0, k1, k2, k3, k4]) rfl ⟨_, rfl, ⟨_, rfl, ?_⟩, hB2⟩
          exact ownsRow_low (ownsRow_of_heap Hown.out fun k hk => hoth k (by have := (Hown.out.lt k hk).1; omega)) (by omega)

end Go.Proofs.YtjbjjfndkpcciaaGreatDoor

/- A log's Put. Own work; no statement. -/
set_option linter.unusedSimpArgs false
set_option linter.unusedVariables false
namespace Go.Proofs.YtjbjjfndkpcciaaGreatDoor
open Go.RowKit Go.Shelf Go.Sort

/-- Put: which error, what there is then. -/
def LogD.putE (L : LogD) (pos : Int) (r : RecD) : Int :=
  if L.down = true then 11 else if pos ≠ L.next then 1 else segPutE (L.at pos) (L.map.length : Int) pos r
def LogD.putS (L : LogD) (pos : Int) (r : RecD) : LogD :=
  if L.putE pos r = 0 then { L with segs := L.segs.set (L.k pos) (segPutS (L.at pos) (L.map.length : Int) pos r), next := L.next + 1 } else L

set_option maxHeartbeats 4000000 in
set_option maxRecDepth 100000 in
theorem logPut_calls (B : Nat) (m : LogM) (L : LogD) (pos : Int) (v : Value) (r : RecD) (w : World) (hd : IsLog w B m L) (hB : B ≤ w.heap.size) (hf : L.fm) (hu : L.down = false → L.up) (hv : IsRec w v r) (hl : r.dep.length ≤ 1099511627776) (hks : r.key.size ≤ 1099511627776) (hvs : r.val.size ≤ 1099511627776) (hp : Pow w) :
    Calls Tryz.prog 17 #[.pointer (some ⟨m.p, 0, none⟩), .int .i64 pos, v] w fun e w' => e = .returned (.int .i64 (L.putE pos r)) ∧ LogGoes B m (L.putS pos r) w w' := by
  obtain ⟨vs, vg, -, -, -, -, c10, -, -, -, c14, -, -⟩ := hd.cells
  obtain ⟨a, cap, rfl, hn⟩ := id hv
  have hlt := hd.lt
  have HB := box_below w (.cells #[.int .i64 r.site, .int .i64 r.seq, .slice a r.dep.length cap, .string r.key, .string r.val] 36)
  by_cases h1 : L.down = true
  · have e1 : L.putE pos r = 11 := by unfold LogD.putE; rw [if_pos h1]
    have e2 : L.putS pos r = L := by unfold LogD.putS; rw [if_neg (by rw [e1]; decide)]
    rw [e1, e2]
    rw [h1] at c10
    have Hd := hide hd
    clear hd hv hn
    go_enter Tryz.func17, Tryz.ntmps17
    go_wp2_with fail
    go_ret
    exact ⟨rfl, logGoes_same Hd.out HB⟩
  · have h1' : L.down = false := by simpa using h1
    have hu := hu h1'
    rw [h1'] at c10
    by_cases h2 : pos = L.next
    · have e1 : L.putE pos r = segPutE (L.at pos) (L.map.length : Int) pos r := by unfold LogD.putE; rw [if_neg h1, if_neg (by omega)]
      have h0 : 0 ≤ pos := by have := hf.trim0; have := hf.head0; have := hf.next0; omega
      have hnx := hf.next1
      rw [← h2] at hnx c14
      have Hpos := hide h2
      clear h2
      obtain ⟨s, hs, hS⟩ := hd.segAt hf hu h0
      obtain ⟨W2, hW2⟩ : ∃ W2, (w.alloc (.cells #[.int .i64 r.site, .int .i64 r.seq, .slice a r.dep.length cap, .string r.key, .string r.val] 36)).drew = W2 := ⟨_, rfl⟩
      have B2 : Below w.heap.size w W2 := by rw [← hW2]; exact HB.drew
      have x2 : W2.heap[w.heap.size]? = some (.cells #[.int .i64 r.site, .int .i64 r.seq, .slice a r.dep.length cap, .string r.key, .string r.val] 36 (0, 0)) := by rw [← hW2]; exact World.alloc_heap_new w _
      obtain ⟨l0, l1, l2, l3, l4, -, -, -, -, -⟩ := cells5 x2
      have C1 := hide (logAt_calls B m L pos s W2 (hd.keep B2) hf h0 (by omega) hs)
      have C2 := hide (fun W (h : Below w.heap.size w W) => logEpoch_calls B m L W (hd.keep h))
      have C3 := hide (fun W (h : Below w.heap.size w W) => segPut_calls B s (L.at pos) (L.map.length : Int) pos _ r W (hS.keep h) (Nat.le_trans hB h.size) (hv.below h) hl hks hvs (hp.below h))
      have HW := hide hW2
      have Hd := hide hd
      have X2 := hide x2
      have Hs := hide hs
      have HE := hide e1
      obtain ⟨E, hE⟩ : ∃ E, segPutE (L.at pos) (L.map.length : Int) pos r = E := ⟨_, rfl⟩
      have hS2 : L.putS pos r = if E = 0 then { L with segs := L.segs.set (L.k pos) (segPutS (L.at pos) (L.map.length : Int) pos r), next := pos + 1 } else L := by unfold LogD.putS; rw [e1, hE, ← Hpos.out]
      obtain ⟨L2, hL2⟩ : ∃ L2, L.putS pos r = L2 := ⟨_, rfl⟩
      rw [e1, hE, hL2]
      rw [hL2] at hS2
      rw [hE] at C3
      have HSe := hide (show E ≠ 0 → segPutS (L.at pos) (L.map.length : Int) pos r = L.at pos from fun h => segPut_err (by rw [hE]; exact h))
      have Hat := hide (hf.at h0)
      generalize segPutS (L.at pos) (L.map.length : Int) pos r = S' at *
      have HL2 := hide hS2
      clear hd hS hs hf hv hn hu hW2 x2 hE e1 hS2 hL2 HE
      go_enter Tryz.func17, Tryz.ntmps17
      go_wp2_with fail
      refine region_headT 8 (fun w2 => w2.cell? ⟨w.heap.size, 0, none⟩ = some (.int .i64 r.site) ∧ w2.cell? ⟨w.heap.size, 1, none⟩ = some (.int .i64 r.seq) ∧ w2.cell? ⟨w.heap.size, 2, none⟩ = some (.slice a r.dep.length cap) ∧ w2.cell? ⟨w.heap.size, 3, none⟩ = some (.string r.key) ∧ w2.cell? ⟨w.heap.size, 4, none⟩ = some (.string r.val)) (by kernel_rfl) (by decide) ?_
      rw [HW.out]
      refine HeadT.take 0 (.pointer (some ⟨m.p, 0, none⟩)) rfl (by kernel_rfl) (.inl ⟨rfl, fun w2 ⟨s0, s1, s2, s3, s4⟩ => by go_simp⟩) ⟨l0, l1, l2, l3, l4⟩ ?_
      refine HeadT.take 1 (.int .i64 pos) rfl (by kernel_rfl) (.inl ⟨rfl, fun w2 ⟨s0, s1, s2, s3, s4⟩ => by go_simp⟩) ⟨l0, l1, l2, l3, l4⟩ ?_
      refine HeadT.take 3 (.pointer (some ⟨m.p, 0, none⟩)) rfl (by kernel_rfl) (.inl ⟨rfl, fun w2 ⟨s0, s1, s2, s3, s4⟩ => by go_simp⟩) ⟨l0, l1, l2, l3, l4⟩ ?_
      refine HeadT.take 5 (.int .i64 pos) rfl (by kernel_rfl) (.inl ⟨rfl, fun w2 ⟨s0, s1, s2, s3, s4⟩ => by go_simp⟩) ⟨l0, l1, l2, l3, l4⟩ ?_
      refine HeadT.take 6 (.agg #[.int .i64 r.site, .int .i64 r.seq, .slice a r.dep.length cap, .string r.key, .string r.val]) rfl (by kernel_rfl) (.inl ⟨rfl, fun w2 ⟨s0, s1, s2, s3, s4⟩ => by go_simp⟩) ⟨l0, l1, l2, l3, l4⟩ ?_
      refine HeadT.only 2 (by kernel_rfl) ?_
      refine wpOp_call rfl rfl 65 #[.pointer (some ⟨m.p, 0, none⟩), .int .i64 pos] (by go_simp) C1.out ?_
      rintro x w3 ⟨rfl, b3⟩
      have B3 := B2.trans (b3.mono B2.size)
      obtain ⟨j0, j1, j2, j3, j4, -, -, -, -, -⟩ := cells5 (keepB X2.out b3)
      refine ⟨_, rfl, ⟨j0, j1, j2, j3, j4⟩, ?_⟩
      refine HeadT.only 4 (by kernel_rfl) ?_
      refine wpOp_call rfl rfl 29 #[.pointer (some ⟨m.p, 0, none⟩)] (by go_simp) (C2.out w3 B3) ?_
      rintro x w4 ⟨rfl, hw4⟩
      subst hw4
      refine ⟨_, rfl, ⟨j0, j1, j2, j3, j4⟩, ?_⟩
      have C4 := hide (C3.out w4 B3)
      refine HeadT.only 7 (by kernel_rfl) ?_
      refine wpOp_call rfl rfl 66 #[.pointer (some ⟨s.p, 0, none⟩), .int .i64 (L.map.length : Int), .int .i64 pos, .agg #[.int .i64 r.site, .int .i64 r.seq, .slice a r.dep.length cap, .string r.key, .string r.val]] (by go_simp) C4.out ?_
      rintro x w5 ⟨rfl, g5⟩
      have x5 : w5.heap[w.heap.size]? = some (.cells #[.int .i64 r.site, .int .i64 r.seq, .slice a r.dep.length cap, .string r.key, .string r.val] 36 (0, 0)) := by
        have x4 := keepB X2.out b3
        obtain ⟨m', -, -, -, -, T, -⟩ := id g5
        refine (T.block _ (ltAt x4) fun h => ?_).trans x4
        have := (Hd.out.segs.on ⟨_, _, Hs.out, h⟩).2
        omega
      obtain ⟨i0, i1, i2, i3, i4, -, -, -, -, -⟩ := cells5 x5
      refine ⟨_, rfl, ⟨i0, i1, i2, i3, i4⟩, ?_⟩
      refine HeadT.tail rfl (by kernel_rfl) ?_
      simp only [List.drop_succ_cons, List.drop_zero]
      clear C1 C2 C3 C4 l0 l1 l2 l3 l4 j0 j1 j2 j3 j4 i0 i1 i2 i3 i4 b3 c10 c14 hlt x5
      obtain ⟨m5, hp5, I5, T5, N5⟩ := (Hd.out.keep B3).seg_goes Hs.out g5
      have T05 := T5.of_touch B3
      by_cases hE : E = 0
      · subst hE
        have e2 := HL2.out
        rw [if_pos rfl] at e2
        subst e2
        obtain ⟨vs5, vg5, r5, q5, -, -, -, -, -, -, d14, fz, hc5⟩ := I5.cells
        rw [hp5] at d14 fz hc5
        have f14 := fz 14
        have I := hide I5
        have HT := hide T05
        have HN := hide N5
        have HC := hide hc5
        have Hr := hide (And.intro r5 q5)
        dsimp only at d14
        clear I5 T5 N5 T05 g5 hc5 r5 q5 fz
        rw [← Hpos.out] at d14
        have hnx2 : ¬ (pos + 1 > 9223372036854775807) := by omega
        go_wp2_with fail
        simp only [noPanic]
        go_wp2_with fail
        go_ret
        obtain ⟨I6, T6⟩ := I.out.set_next (pos + 1)
        rw [hp5] at I6 T6
        refine ⟨rfl, m5, hp5, I6, HT.out.next T6 fun x hx hm => ?_, fun x hx => (HN.out x hx).imp (fun h => h) fun h => Nat.le_trans B3.size h⟩
        rcases HN.out x hm with h | h
        · exact h
        · have := B3.size
          omega
      · have hEe := HSe.out hE
        have e2 := HL2.out
        rw [if_neg hE] at e2
        subst e2
        subst hEe
        have hset : L2.segs.set (L2.k pos) (L2.at pos) = L2.segs := by
          apply List.ext_getElem?
          intro i
          rw [List.getElem?_set]
          split
          · rename_i h
            subst h
            rw [Hat.out, if_pos (List.getElem?_eq_some_iff.1 Hat.out).1]
          · rfl
        rw [hset] at I5
        have I := hide I5
        have HT := hide T05
        have HN := hide N5
        have hE' : (E != 0) = true := by simp [hE]
        clear I5 T5 N5 T05 g5 hset
        go_wp2_with fail
        simp only [noPanic]
        go_wp2_with fail
        go_ret
        exact ⟨rfl, m5, hp5, I.out, HT.out, fun x hx => (HN.out x hx).imp (fun h => h) fun h => Nat.le_trans B3.size h⟩
    · have e1 : L.putE pos r = 1 := by unfold LogD.putE; rw [if_neg h1, if_pos h2]
      have e2 : L.putS pos r = L := by unfold LogD.putS; rw [if_neg (by rw [e1]; decide)]
      rw [e1, e2]
      have Hd := hide hd
      have h2' : (pos != L.next) = true := by simp [h2]
      clear hd hv hn
      go_enter Tryz.func17, Tryz.ntmps17
      go_wp2_with fail
      go_ret
      exact ⟨rfl, logGoes_same Hd.out HB⟩

end Go.Proofs.YtjbjjfndkpcciaaGreatDoor
