/- Filters in the laws: contracts one behind the other. Own work; no statement. -/
import Derived.Test.YtompaldhnbcikaaF10
set_option linter.unusedSimpArgs false
set_option linter.unusedVariables false
namespace Go.Proofs.Ytompaldhnbcikaa
open Go.RowKit Go.Shelf

theorem HasL.keep {w w' : World} {v : Value} {L : List RecD} (h : HasL w v L) (hk : ∀ (k : Nat) (c : Array Value) (t : TypeId), w.heap[k]? = some (.cells c t (0, 0)) → (t = 35 ∨ t = 3) → w'.heap[k]? = w.heap[k]?) : HasL w' v L := by
  obtain ⟨l, h1, h2, h3⟩ := h
  refine ⟨l, h1, ownsRow_of_heap h2 fun k e => ?_, fun q hq => ownsRow_of_heap (h3 q hq) fun k e => ?_⟩
  · rcases h2.2 with ⟨rfl, _⟩ | ⟨g, cap, cur, rfl, _, hg, _⟩
    · cases e
    · obtain rfl : g = k := by simpa [Value.ownBlock] using e
      exact hk _ _ _ hg (.inl rfl)
  · rcases (h3 q hq).2 with ⟨e', _⟩ | ⟨g, cap, cur, e', _, hg, _⟩
    · rw [e'] at e; cases e
    · obtain rfl : g = k := by rw [e'] at e; simpa [Value.ownBlock] using e
      exact hk _ _ _ hg (.inr rfl)
theorem HasL.below {w w' : World} {v : Value} {L : List RecD} (h : HasL w v L) (hb : Below w.heap.size w w') : HasL w' v L := h.keep fun k _ _ e _ => hb.block k (ltAt e)
theorem HasL.touch {w w' : World} {v : Value} {L : List RecD} {p b : Nat} {F : FilD} (h : HasL w v L) (hf : IsFil w p b F) (t : Touch (onFil p b) w w') : HasL w' v L :=
  h.keep fun k c ty e hty => t.block k (ltAt e) (by
    rintro (rfl | rfl)
    · rw [hf.head] at e
      simp only [Option.some.injEq, Obj.cells.injEq] at e
      rcases hty with h | h
      · exact absurd (e.2.1.trans h) (by decide)
      · exact absurd (e.2.1.trans h) (by decide)
    · obtain ⟨M, -, m2, -⟩ := hf.held
      exact m2.not_cells e)
/-- The row's form, and each record's number. -/
theorem HasL.form {w : World} {v : Value} {L : List RecD} (h : HasL w v L) : ∃ a cap, v = .slice a L.length cap ∧ ∀ j (hj : j < L.length), ∃ g, a = some ⟨g, 0, none⟩ ∧ w.cell? ⟨g, j * 5 + 1, none⟩ = some (.int .i64 L[j].seq) := by
  obtain ⟨l, rfl, h2, h3⟩ := h
  obtain ⟨a, cap, rfl⟩ := ownsRow_slice h2
  refine ⟨a, cap, by simp, fun j hj => ?_⟩
  have hj' : j < l.length := by simpa using hj
  rcases h2.2 with ⟨e1, e2⟩ | ⟨g, cap', cur, e1, -⟩
  · omega
  · simp only [Value.slice.injEq] at e1
    obtain ⟨rfl, -, rfl⟩ := e1
    refine ⟨g, rfl, ?_⟩
    rw [h2.cellAt (j * 5 + 1) (by omega), flat5 l j 1 hj' (by omega)]
    simp [Pl.cells5]
theorem HasL.recs {w : World} {v : Value} {L : List RecD} (h : HasL w v L) : IsRecs w v L := by
  obtain ⟨l, rfl, h2, h3⟩ := h
  exact recs_of_row h2 h3

/-- What is no filter and no map is as it was. -/
def Kept (w w' : World) : Prop := ∀ (k : Nat) (c : Array Value) (t : TypeId) (f : Nat × Nat), w.heap[k]? = some (.cells c t f) → t ≠ 69 → w'.heap[k]? = w.heap[k]?
theorem kept_below {w w' : World} (h : Below w.heap.size w w') : Kept w w' := fun k _ _ _ e _ => h.block k (ltAt e)
theorem kept_touch {w w' : World} {p b : Nat} {F : FilD} (hf : IsFil w p b F) (t : Touch (onFil p b) w w') : Kept w w' := fun k c ty f e hty => t.block k (ltAt e) (by
  rintro (rfl | rfl)
  · rw [hf.head] at e
    simp only [Option.some.injEq, Obj.cells.injEq] at e
    exact hty e.2.1.symm
  · obtain ⟨M, -, m2, -⟩ := hf.held
    exact m2.not_cells e)
theorem Kept.trans {a b c : World} (h : Kept a b) (k : Kept b c) : Kept a c := fun i x t f e ht => (k i x t f ((h i x t f e ht).trans e) ht).trans (h i x t f e ht)
theorem HasL.kept {w w' : World} {v : Value} {L : List RecD} (h : HasL w v L) (k : Kept w w') : HasL w' v L := h.keep fun i c t e ht => k i c t _ e (by rcases ht with rfl | rfl <;> decide)
theorem Boxed.kept7 {w w' : World} {B : Nat} {t : TypeId} {v : Value} (h : Boxed w B t v) (k : Kept w w') (ht : t ≠ 69) : Boxed w' B t v := boxed_of_heap h (k _ _ _ _ h ht)

/-- Since w0 there is a filter, all its memory made since. -/
structure AtF (w0 w : World) (p b : Nat) (F : FilD) : Prop where
  fil : IsFil w p b F
  lowp : w0.heap.size ≤ p
  lowb : w0.heap.size ≤ b
  bel : Below w0.heap.size w0 w
theorem AtF.step {w0 w w' : World} {p b : Nat} {F G : FilD} (h : AtF w0 w p b F) (hf : IsFil w' p b G) (t : Touch (onFil p b) w w') : AtF w0 w' p b G :=
  ⟨hf, h.lowp, h.lowb, h.bel.trans (t.below h.bel.size fun k _ hk => by rcases hk with rfl | rfl; exact h.lowp; exact h.lowb)⟩
theorem AtF.new {w0 w w' : World} {p b : Nat} {F : FilD} (h : AtF w0 w p b F) (hb : Below w.heap.size w w') : AtF w0 w' p b F := ⟨h.fil.keep hb, h.lowp, h.lowb, h.bel.trans (hb.mono h.bel.size)⟩
theorem AtF.set {w0 w : World} {p b : Nat} {F : FilD} (h : AtF w0 w p b F) {B : Nat} {t : TypeId} {x v : Value} (hb : Boxed w B t x) (hB : w0.heap.size ≤ B) (ht : t ≠ 69 ∧ t ≠ 3) : AtF w0 (w.setCell ⟨B, 0, none⟩ v) p b F := by
  refine ⟨h.fil.keep' (Below.heap_setCell _ _ _ _ ?_) (Below.heap_setCell _ _ _ _ ?_) fun k c e => Below.heap_setCell _ _ _ _ ?_, h.lowp, h.lowb, h.bel.setCell (p := ⟨B, 0, none⟩) hB v⟩
  · intro e
    have e' : p = B := e
    unfold Boxed at hb
    rw [← e', h.fil.head] at hb
    simp only [Option.some.injEq, Obj.cells.injEq] at hb
    exact ht.1 hb.2.1.symm
  · intro e
    have e' : b = B := e
    obtain ⟨M, -, m2, -⟩ := h.fil.held
    unfold Boxed at hb
    rw [← e'] at hb
    exact m2.not_cells hb
  · intro e'
    have e2 : k = B := e'
    unfold Boxed at hb
    rw [← e2, e] at hb
    simp only [Option.some.injEq, Obj.cells.injEq] at hb
    exact ht.2 hb.2.1.symm

section
variable {w0 : World} {p b : Nat} {F : FilD}
theorem put_on (v : Value) (r : RecD) (c : Int) (G : FilD) (hc : putE F r = c) (hG : putF F r = G) (hl : r.dep.length ≤ 70) (hk : r.key.size ≤ 50) (hvl : r.val.size ≤ 50) (w : World) (hf : AtF w0 w p b F) (hv : IsRec w v r) :
    Calls Try.prog 12 #[.pointer (some ⟨p, 0, none⟩), v] w fun e w' => e = .returned (.int .i64 c) ∧ AtF w0 w' p b G ∧ Kept w w' :=
  (filPut_calls p b F v r c G hc hG w hf.fil hv (by omega) (by omega) (by omega)).mono fun e w' ⟨h1, h2, h3⟩ => ⟨h1, hf.step h2 h3, kept_touch hf.fil h3⟩
theorem first_on (o : Option RecD) (ho : firstF F = o) (w : World) (hf : AtF w0 w p b F) :
    Calls Try.prog 21 #[.pointer (some ⟨p, 0, none⟩)] w fun e w' => ∃ v, e = .returned (.tuple #[v, .bool o.isSome]) ∧ OwnRec 0 w' v (o.getD zeroR) ∧ AtF w0 w' p b F ∧ Kept w w' :=
  (filFirst_calls p b F o ho w hf.fil).mono fun e w' ⟨v, h1, h2, h3⟩ => ⟨v, h1, h2.low (Nat.zero_le _), hf.new h3, kept_below h3⟩
theorem reset_on (n c : Int) (G : FilD) (hc : resetE n = c) (hG : resetF F n = G) (w : World) (hf : AtF w0 w p b F) :
    Calls Try.prog 18 #[.pointer (some ⟨p, 0, none⟩), .int .i64 n] w fun e w' => e = .returned (.int .i64 c) ∧ AtF w0 w' p b G ∧ Kept w w' :=
  (filReset_calls p b F n c G hc hG w hf.fil).mono fun e w' ⟨h1, h2, h3⟩ => ⟨h1, hf.step h2 h3, kept_touch hf.fil h3⟩
theorem taken_on (most : Nat) (hm : 1 ≤ most) (hm2 : most ≤ 9223372036854775807) (L : List RecD) (G : FilD) (hL : (readyL F).take most = L) (hG : takesF (min most (readyL F).length) F = G) (w : World) (hf : AtF w0 w p b F) :
    Calls Try.prog 15 #[.pointer (some ⟨p, 0, none⟩), .int .i64 (most : Int)] w fun e w' => ∃ v, e = .returned (.tuple #[v, .bool true]) ∧ HasL w' v L ∧ AtF w0 w' p b G ∧ Kept w w' := by
  subst hL
  subst hG
  exact (taken_some p b F most hm hm2 w hf.fil).mono fun e w' ⟨v, h1, h2, h3, h4⟩ => ⟨v, h1, h2, hf.step h3 h4, kept_touch hf.fil h4⟩
end

end Go.Proofs.Ytompaldhnbcikaa
