/- A region that draws its order: its first n operations read, or call what makes memory of its own, in whatever order; the others come behind them, one by one. One walk of the text's order serves. Own work; no statement. -/
import Derived.Test.YtompaldhnbcikaaBase
import Derived.Sort.QuietThIn
import Derived.StillTail
import Derived.Lib.QuietBelowIn
set_option linter.unusedSimpArgs false
set_option linter.unusedVariables false
namespace Go.Proofs.Ytompaldhnbcikaa
open Go.RowKit Go.Sort

section
variable {F : Fence} {n : Nat} {P : Program} {ops : Array Oper} {C : World → Prop}

/-- f operations more in whatever order, each of them quiet; then L. -/
def HeadIn (F : Fence) (n : Nat) (P : Program) (ops : Array Oper) (C : World → Prop) (L : Array Bool → Act → Prop) : Nat → Array Bool → Act → Prop
  | 0, done, a => L done a
  | f + 1, done, a => Region.ready .any ops done ≠ [] ∧ ∀ i ∈ Region.ready .any ops done, qOpIn F n P ops C i (HeadIn F n P ops C L f (done.setIfInBounds i true)) a

/-- Whatever f operations come up from here, they leave the marks M. -/
def headOk (ops : Array Oper) (M : Array Bool) : Nat → Array Bool → Bool
  | 0, done => done == M
  | f + 1, done => !(Region.ready .any ops done).isEmpty && (Region.ready .any ops done).all fun i => headOk ops M f (done.setIfInBounds i true)

theorem headOk_ready {M : Array Bool} {f : Nat} {done : Array Bool} (h : headOk ops M (f + 1) done = true) : Region.ready .any ops done ≠ [] ∧ ∀ i ∈ Region.ready .any ops done, headOk ops M f (done.setIfInBounds i true) = true := by
  simp only [headOk, Bool.and_eq_true, Bool.not_eq_true', List.isEmpty_eq_false_iff, List.all_eq_true] at h
  exact h

theorem unmarked {i j : Nat} {done : Array Bool} (hi : done.getD i true = false) (hij : i ≠ j) : done.setIfInBounds i true ≠ done.setIfInBounds j true := by
  intro e
  have h1 : (done.setIfInBounds i true).getD i false = true := by
    by_cases hlt : i < done.size
    · simp [hlt]
    · simp [Array.getElem?_eq_none (Nat.le_of_not_lt hlt)] at hi
  rw [e] at h1
  have h2 : (done.setIfInBounds j true).getD i false = done.getD i false := getD_set_ne false (Ne.symm hij)
  rw [h2] at h1
  by_cases hlt : i < done.size
  · simp [hlt] at hi h1
    rw [hi] at h1
    cases h1
  · simp [Array.getElem?_eq_none (Nat.le_of_not_lt hlt)] at hi

/-- What may come up first may be taken first. -/
theorem HeadIn.first {L : Array Bool → Act → Prop} {M : Array Bool} {i : Nat} {oi : Oper} {v : Value} (hi : ops[i]? = some oi) (hsel : ∀ (j : Nat) (o : Oper) cs b, ops[j]? = some o → o.op ≠ .select cs b) :
    ∀ (f : Nat) (done : Array Bool) (a : Act), headOk ops M (f + 1) done = true →
      (∀ j oj, ops[j]? = some oj → j ≠ i → done.getD j true = false → (∀ e ∈ oj.after, Region.binds .any e = true → e.on ≠ i) → oi.apart ops oj = true) →
      i ∈ Region.ready .any ops done → YieldsQuiet F n P ops C oi v a → HeadIn F n P ops C L f (done.setIfInBounds i true) (a.put oi.dst v) → HeadIn F n P ops C L (f + 1) done a := by
  intro f
  induction f with
  | zero =>
    intro done a hok _ hr hy H
    obtain ⟨hne, hall⟩ := headOk_ready hok
    refine ⟨hne, fun j hj => ?_⟩
    by_cases hji : j = i
    · subst hji
      exact hy.qOpIn hi H
    · have e1 : done.setIfInBounds i true = M := by simpa [headOk] using hall i hr
      have e2 : done.setIfInBounds j true = M := by simpa [headOk] using hall j hj
      exact absurd (e1.trans e2.symm) (unmarked (mem_ready.1 hr).1 (Ne.symm hji))
  | succ f ih =>
    intro done a hok hfree hr hy H
    obtain ⟨hne, hall⟩ := headOk_ready hok
    refine ⟨hne, fun j hj => ?_⟩
    by_cases hji : j = i
    · subst hji
      exact hy.qOpIn hi H
    · obtain ⟨hjun, oj, hoj, hafter⟩ := mem_ready.1 hj
      have hno : ∀ e ∈ oj.after, Region.binds .any e = true → e.on ≠ i := by
        intro e he hb heq
        have h1 := hafter e he hb
        have h2 := (mem_ready.1 hr).1
        rw [heq] at h1
        by_cases hlt : i < done.size
        · simp [hlt] at h1 h2
          rw [h2] at h1
          cases h1
        · simp [Array.getElem?_eq_none (Nat.le_of_not_lt hlt)] at h1
      have hq := qOpIn_put hoj (hfree j oj hoj hji hjun hno) (fun cs b => hsel i oi cs b hi) (fun cs b => hsel j oj cs b hoj) hy (H.2 j (ready_mono hj hji))
      refine qOpIn_mono (fun a' ⟨hy', hH⟩ => ih _ a' (hall j hj) ?_ (ready_mono hr (Ne.symm hji)) hy' ?_) hq
      · intro k ok hk hki hun hafter'
        refine hfree k ok hk hki ?_ hafter'
        by_cases hjk : j = k
        · subst hjk
          exact hjun
        · rwa [getD_set_ne true hjk] at hun
      · rw [Array.setIfInBounds_comm _ _ hji]
        exact hH

/-- The first operations by the walk of the text's order. -/
theorem headIn_lex {Q : Act → Prop} {M : Array Bool} {g : Nat} (hs : Region.noSelect ops = true) : ∀ (l : List Oper) (k : Nat) (done : Array Bool) (a : Act), (∀ j, j < l.length → l[j]? = ops[k + j]?) →
    Region.lexHead .any ops g l.length k done = true → headOk ops M l.length done = true → wpQuietIn F n P ops C Q l a → HeadIn F n P ops C (fun d a => d = M ∧ Q a) l.length done a
  | [], _, _, _, _, _, hM, h => ⟨by simpa [headOk] using hM, h⟩
  | o :: l, k, done, a, hl, hB, hM, h => by
    have h0 : ops[k]? = some o := by simpa using (hl 0 (by simp)).symm
    simp only [List.length_cons, Region.lexHead, Bool.and_eq_true] at hB
    obtain ⟨⟨hr, hf⟩, hB'⟩ := hB
    have hr' : k ∈ Region.ready .any ops done := by simpa using hr
    have hq : qOpIn F n P ops C k (wpQuietIn F n P ops C Q l) a := by
      unfold qOpIn
      simp only [h0]
      exact h
    obtain ⟨v, hy, hK⟩ := yieldsQuiet_of_qOpIn h0 hq
    refine HeadIn.first h0 (Region.noSelect_spec hs) l.length done a hM (Region.free_spec h0 hf) hr' hy ?_
    refine headIn_lex hs l (k + 1) _ _ (fun j hj => ?_) hB' ((headOk_ready hM).2 k hr') hK
    have := hl (j + 1) (by simp; omega)
    simpa [Nat.add_assoc, Nat.add_comm 1 j] using this

theorem headIn_sound {L : Array Bool → Act → Prop} {Q : Exit → Act → World → Prop} {g : Nat} (hro : F.round = none) (hL : ∀ d a w, C w → L d a → wpAnyIn F n P .any ops Q g d a w) :
    ∀ (f : Nat) (done : Array Bool) (a : Act) (w : World), C w → HeadIn F n P ops C L f done a → wpAnyIn F n P .any ops Q (f + g) done a w
  | 0, done, a, w, hw, h => by rw [Nat.zero_add]; exact hL done a w hw h
  | f + 1, done, a, w, hw, h => by
    rw [Nat.add_right_comm]
    exact ⟨fun e => absurd e h.1, fun i hi => wpOpIn_of_qOpIn hro hw (fun a' w' hw' h' => headIn_sound hro hL f _ a' w' hw' h') (h.2 i hi)⟩

/-- What comes one by one. -/
theorem anyIn_seq {Q : Exit → Act → World → Prop} : ∀ (l : List Oper) (k : Nat) (done : Array Bool) (a : Act) (w : World), (∀ j, l[j]? = ops[k + j]?) →
    Region.seqB .any ops l.length k done = true → wpListIn F n P ops Q l a w → wpAnyIn F n P .any ops Q l.length done a w
  | [], _, _, _, _, _, hB, h => ⟨by simpa [Region.seqB] using hB, h⟩
  | o :: l, k, done, a, w, hl, hB, h => by
    have h0 : ops[k]? = some o := by simpa using (hl 0).symm
    simp only [List.length_cons, Region.seqB, Bool.and_eq_true, decide_eq_true_eq] at hB
    obtain ⟨hr, hB'⟩ := hB
    refine ⟨fun e => (by rw [hr] at e; cases e), fun i hi => ?_⟩
    rw [hr] at hi
    obtain rfl : i = k := by simpa using hi
    have hop : wpOpIn F n P ops Q i (wpListIn F n P ops Q l) a w := by
      unfold wpOpIn
      simp only [h0]
      exact h
    refine wpOpIn_mono (fun a' w' h' => anyIn_seq l (i + 1) _ a' w' (fun j => ?_) hB' h') hop
    have := hl (j + 1)
    simpa [Nat.add_assoc, Nat.add_comm 1 j] using this

/-- What a kernel may reckon of a region: its first m operations come in whatever order, the others behind them, one by one. -/
def tailOk (ops : Array Oper) (m : Nat) (M : Array Bool) : Bool :=
  Region.noSelect ops && decide (m ≤ ops.size) && Region.lexHead .any ops (ops.size - m) m 0 (Array.replicate ops.size false) && headOk ops M m (Array.replicate ops.size false) && Region.seqB .any ops (ops.size - m) m M

/-- A region that draws: the head by its walk in the class of worlds that keep what lay there; the tail in each such world. -/
theorem regionIn_tail {id : Nat} {Q : Exit → Act → World → Prop} {a : Act} {w : World} {l : List Oper} (m : Nat) (M : Array Bool) (hro : F.round = none) (hm : P.follows .mixedOrders = true) (hB : tailOk l.toArray m M = true)
    (h : wpQuietIn F n P l.toArray (fun w' => ∃ p : Regrown, w' = grow (redrawn w p.d) p.os) (fun a' => ∀ w', (∃ p : Regrown, w' = grow (redrawn w p.d) p.os) → wpListIn F n P l.toArray Q (l.drop m) a' w') (l.take m) a) :
    (Code.region id l.toArray true).wpIn F n P Q a w := by
  simp only [tailOk, Bool.and_eq_true, decide_eq_true_eq] at hB
  obtain ⟨⟨⟨⟨hs, hmn⟩, hlex⟩, hok⟩, hseq⟩ := hB
  have hml : m ≤ l.length := by simpa using hmn
  have htl : (l.take m).length = m := by simp; omega
  have hdl : (l.drop m).length = l.toArray.size - m := by simp
  refine wpIn_region_any hm ?_
  have hC : (fun w' => ∃ p : Regrown, w' = grow (redrawn w p.d) p.os) { w with drawn := w.drawn + 1 } := ⟨⟨w.drawn + 1, #[]⟩, by rw [grow_empty]; rfl⟩
  have H := headIn_lex (F := F) (n := n) (M := M) (g := l.toArray.size - m) hs (l.take m) 0 (Array.replicate l.toArray.size false) a (fun j hj => by rw [htl] at hj; simp [hj]) (by rw [htl]; exact hlex) (by rw [htl]; exact hok) h
  rw [htl] at H
  have R := headIn_sound (Q := Q) (g := l.toArray.size - m) hro (fun d a' w' hw' ⟨e, hq⟩ => by
    subst e
    have := anyIn_seq (F := F) (n := n) (P := P) (Q := Q) (ops := l.toArray) (l.drop m) m d a' w' (fun j => by simp [List.getElem?_drop]) (by rw [hdl]; exact hseq) (hq w' hw')
    rwa [hdl] at this) m _ a _ hC H
  rwa [show m + (l.toArray.size - m) = l.toArray.size by simp; omega] at R
end

end Go.Proofs.Ytompaldhnbcikaa
