/- Own work: the parts HeldT, Tail, QRound, TailR, D4, D5, D6 of the proof, laid together. -/
import Derived.Test.YtjbjjfndkpcciaaGreatDoorPartLogStripes1
import Derived.OrdersHeld
import Derived.StillTail
import Derived.Sort.QuietThIn
import Derived.Lib.QuietBelowIn
import Derived.Sort.BigQuietIn
import Derived.RangeFuncCalls
import Derived.Test.YtjbjjfndkpcciaaGreatDoorPartLogStripes3
import Derived.Maps.OwnIn
/- A region that draws its order: its first m operations come in whatever order, most of them reading what none of them writes (S says what); the others come behind them all, one by one. Own work; no statement. -/
set_option linter.unusedSimpArgs false
set_option linter.unusedVariables false
namespace Go.Proofs.YtjbjjfndkpcciaaGreatDoor
open Go.RowKit

section
variable {P : Program} {ops : Array Oper} {Q : Exit → Act → World → Prop} {S : World → Prop} {m g : Nat}

/-- f operations more of the head, S behind each of them; then the tail. -/
def HeadT (P : Program) (ops : Array Oper) (Q : Exit → Act → World → Prop) (S : World → Prop) (m g : Nat) : Nat → Array Bool → Act → World → Prop
  | 0, d, a, w => (∀ j ∈ Region.ready .any ops d, m ≤ j) ∧ wpAny P .any ops Q g d a w
  | f + 1, d, a, w => Region.ready .any ops d ≠ [] ∧ ∀ i ∈ Region.ready .any ops d, wpOp P ops Q i (fun a' w' => S w' ∧ HeadT P ops Q S m g f (d.setIfInBounds i true) a' w') a w

theorem HeadT.any : ∀ (f : Nat) (d : Array Bool) (a : Act) (w : World), HeadT P ops Q S m g f d a w → wpAny P .any ops Q (f + g) d a w
  | 0, d, a, w, h => by rw [Nat.zero_add]; exact h.2
  | f + 1, d, a, w, h => by
    rw [Nat.add_right_comm]
    exact ⟨fun e => absurd e h.1, fun i hi => wpOp_mono (fun a' w' h' => HeadT.any f _ a' w' h'.2) (h.2 i hi)⟩

/-- Each operation from m on waits for each one ahead of m. -/
def waitsAll (ops : Array Oper) (m : Nat) : Bool := (List.range ops.size).all fun j => decide (j < m) || (List.range m).all fun i => Region.waitsFor .any ops j i

theorem waitsAll_spec (h : waitsAll ops m = true) {i j : Nat} (hi : i < m) (hj : m ≤ j) {d : Array Bool} (hd : d.getD i true = false) : j ∉ Region.ready .any ops d := by
  intro hr
  obtain ⟨hun, oj, hoj, hall⟩ := mem_ready.1 hr
  have hlt : j < ops.size := by
    rcases Nat.lt_or_ge j ops.size with h | h
    · exact h
    · rw [Array.getElem?_eq_none h] at hoj; cases hoj
  have h1 := List.all_eq_true.1 h j (List.mem_range.2 hlt)
  simp only [Bool.or_eq_true, decide_eq_true_eq, List.all_eq_true, List.mem_range] at h1
  rcases h1 with h1 | h1
  · omega
  · obtain ⟨oj', hoj', e, he, hb, hon⟩ := Region.waitsFor_spec (h1 i hi)
    rw [hoj] at hoj'
    cases hoj'
    have := hall e he hb
    rw [hon] at this
    rcases Nat.lt_or_ge i d.size with h' | h'
    · simp [h'] at hd this
      rw [hd] at this
      cases this
    · simp [Array.getElem?_eq_none h'] at this

theorem HeadT.first {i : Nat} {oi : Oper} {v : Value} (hi : ops[i]? = some oi) (him : i < m) (hwa : waitsAll ops m = true) (hsel : ∀ (j : Nat) (o : Oper) cs b, ops[j]? = some o → o.op ≠ .select cs b)
    (hQ : ∀ c a w, Q (.panic c) (a.put oi.dst v) w → Q (.panic c) a w) :
    ∀ (f : Nat) (d : Array Bool) (a : Act) (w : World),
      (∀ j oj, ops[j]? = some oj → j ≠ i → d.getD j true = false → (∀ e ∈ oj.after, Region.binds .any e = true → e.on ≠ i) → oi.apart ops oj = true) →
      i ∈ Region.ready .any ops d → YieldsIf P ops S oi v a → S w → HeadT P ops Q S m g f (d.setIfInBounds i true) (a.put oi.dst v) w → HeadT P ops Q S m g (f + 1) d a w := by
  intro f
  induction f with
  | zero =>
    intro d a w _ hr hy hS H
    refine ⟨fun h => (by rw [h] at hr; cases hr), fun j hj => ?_⟩
    by_cases hji : j = i
    · subst hji; exact hy.wpOp hi hS ⟨hS, H⟩
    · have h1 := H.1 j (ready_mono hj hji)
      exact absurd hj (waitsAll_spec hwa him h1 (mem_ready.1 hr).1)
  | succ f ih =>
    intro d a w hfree hr hy hS H
    refine ⟨fun h => (by rw [h] at hr; cases hr), fun j hj => ?_⟩
    by_cases hji : j = i
    · subst hji; exact hy.wpOp hi hS ⟨hS, H⟩
    · have h1 := H.2 j (ready_mono hj hji)
      obtain ⟨hjun, oj, hoj, hall⟩ := mem_ready.1 hj
      have hnot : ∀ e ∈ oj.after, Region.binds .any e = true → e.on ≠ i := fun e he hb heq => by
        have h1 := hall e he hb
        have h0 := (mem_ready.1 hr).1
        rw [heq] at h1
        rcases Nat.lt_or_ge i d.size with h' | h'
        · simp [h'] at h0 h1; rw [h0] at h1; cases h1
        · simp [Array.getElem?_eq_none h'] at h1
      have h2 := wpOp_putIf hoj (hfree j oj hoj hji hjun hnot) (fun cs b => hsel i oi cs b hi) (fun cs b => hsel j oj cs b hoj) hQ hy h1
      have hfree' : ∀ k ok, ops[k]? = some ok → k ≠ i → (d.setIfInBounds j true).getD k true = false →
          (∀ e ∈ ok.after, Region.binds .any e = true → e.on ≠ i) → oi.apart ops ok = true := fun k ok hk hki hun hno => by
        refine hfree k ok hk hki ?_ hno
        by_cases hjk : j = k
        · subst hjk; exact hjun
        · rw [getD_set_ne true hjk] at hun; exact hun
      refine wpOp_mono (fun a' w' h3 => ⟨h3.2.1, ih (d.setIfInBounds j true) a' w' hfree' (ready_mono hr (Ne.symm hji)) h3.1 h3.2.1 ?_⟩) h2
      rw [Array.setIfInBounds_comm _ _ hji]
      exact h3.2.2

/-- No panic. -/
def noPanic (Q : Exit → Act → World → Prop) : Exit → Act → World → Prop
  | .panic _, _, _ => False
  | e, a, w => Q e a w

theorem noPanic_imp (e : Exit) (a : Act) (w : World) (h : noPanic Q e a w) : Q e a w := by
  cases e <;> first | exact h | exact h.elim

/-- Number i reads: it is taken first. -/
theorem HeadT.take (i : Nat) {oi : Oper} (v : Value) {f : Nat} {d : Array Bool} {a : Act} {w : World} (hi : ops[i]? = some oi) (hb : (decide (i < m) && waitsAll ops m && Region.noSelect ops && Region.free .any ops d i && (Region.ready .any ops d).contains i) = true)
    (hy : YieldsIf P ops S oi v a) (hS : S w)
    (h : HeadT P ops (noPanic Q) S m g f (d.setIfInBounds i true) (a.put oi.dst v) w) : HeadT P ops (noPanic Q) S m g (f + 1) d a w := by
  simp only [Bool.and_eq_true, decide_eq_true_eq] at hb
  obtain ⟨⟨⟨⟨h1, h2⟩, h3⟩, h4⟩, h5⟩ := hb
  exact HeadT.first hi h1 h2 (Region.noSelect_spec h3) (fun _ _ _ h => h) f d a w (Region.free_spec hi h4) (by simpa using h5) hy hS h

/-- Number i alone may come up. -/
theorem HeadT.only (i : Nat) {f : Nat} {d : Array Bool} {a : Act} {w : World} (hr : Region.ready .any ops d = [i]) (h : wpOp P ops Q i (fun a' w' => S w' ∧ HeadT P ops Q S m g f (d.setIfInBounds i true) a' w') a w) : HeadT P ops Q S m g (f + 1) d a w :=
  ⟨by rw [hr]; simp, fun j hj => by rw [hr] at hj; obtain rfl : j = i := (by simpa using hj); exact h⟩

/-- The head is done. -/
theorem HeadT.tail {l : List Oper} {d : Array Bool} {a : Act} {w : World} (hl : (l.drop m).length = g) (hs : Region.seqB .any l.toArray g m d = true) (h : wpList P l.toArray Q (l.drop m) a w) : HeadT P l.toArray Q S m g 0 d a w := by
  refine ⟨seqB_ready hs, ?_⟩
  subst hl
  exact wpAny_of_seq (l.drop m) m d a w (fun j => by simp [List.getElem?_drop]) hs h

theorem region_headT {id : Nat} {a : Act} {w : World} {l : List Oper} (m : Nat) (S : World → Prop) (hm : P.follows .mixedOrders = true) (hle : m ≤ l.length) (h : HeadT P l.toArray (noPanic Q) S m (l.length - m) m (Array.replicate l.toArray.size false) a w.drew) : (Code.region id l.toArray true).wp P Q a w := by
  refine wp_mono (Q := noPanic Q) (wp_region_any hm ?_) noPanic_imp
  have := HeadT.any m _ a _ h
  rw [show m + (l.length - m) = l.toArray.size by simp; omega] at this
  exact this

/-- An operation that answers a value, as the one that comes up. -/
theorem wpOp_val {i : Nat} {o : Oper} {K : Act → World → Prop} {a : Act} {w w' : World} {v : Value} (hi : ops[i]? = some o) (hg : o.guard = none) (hrun : (execOp a.eval o).run P w = .ok (.value v) w') (hK : K (a.put o.dst v) w') : wpOp P ops Q i K a w := by
  unfold wpOp
  simp only [hi]
  rw [if_pos (by simp [Region.wanted, hg])]
  refine .inl ?_
  unfold Oper.wp
  rw [hrun]
  exact hK

/-- A call of a Go function, as the one that comes up. -/
theorem wpOp_call {i : Nat} {o : Oper} {K : Act → World → Prop} {a : Act} {w : World} (hi : ops[i]? = some o) (hg : o.guard = none) (f : FuncId) (args : Array Value) {R : Ending → World → Prop} (hrun : (execOp a.eval o).run P w = .ok (.enter f args) w) (hc : Calls P f args w R)
    (hR : ∀ e w', R e w' → ∃ v, e = .returned v ∧ K (a.put o.dst v) w') : wpOp P ops Q i K a w := by
  unfold wpOp
  simp only [hi]
  rw [if_pos (by simp [Region.wanted, hg])]
  refine .inl ?_
  unfold Oper.wp
  rw [hrun]
  simp only [Oper.upon]
  refine hc.mono fun e w' h => ?_
  obtain ⟨v, rfl, hk⟩ := hR e w' h
  exact hk
end

end Go.Proofs.YtjbjjfndkpcciaaGreatDoor

/- A region that draws its order: its first n operations read, or call what makes memory of its own, in whatever order; the others come behind them, one by one. One walk of the text's order serves. Own work; no statement. -/
set_option linter.unusedSimpArgs false
set_option linter.unusedVariables false
namespace Go.Proofs.YtjbjjfndkpcciaaGreatDoor
open Go.RowKit Go.Sort

section
variable {F : Fence} {n : Nat} {P : Program} {ops : Array Oper} {C : World → Prop}

/-- f operations more in whatever order, each of them quiet; then L. -/
def HeadIn (F : Fence) (n : Nat) (P : Program) (ops : Array Oper) (C : World → Prop) (L : Array Bool → Act → Prop) : Nat → Array Bool → Act → Prop
  | 0, done, a => L done a
  | f + 1, done, a => Region.ready .any ops done ≠ [] ∧ ∀ i ∈ Region.ready .any ops done, qOpIn F n P ops C i (HeadIn F n P ops C L f (done.setIfInBounds i true)) a

/-- Whatever f operations come up from here, they leave the marks M. -/
def headOk (ops : Array Oper) (M : Array Bool) : Nat → Array Bool → Bool
  | 0, done => done == M
  | f + 1, done => !(Region.ready .any ops done).isEmpty && (Region.ready .any ops done).all fun i => headOk ops M f (done.setIfInBounds i true)

theorem headOk_ready {M : Array Bool} {f : Nat} {done : Array Bool} (h : headOk ops M (f + 1) done = true) : Region.ready .any ops done ≠ [] ∧ ∀ i ∈ Region.ready .any ops done, headOk ops M f (done.setIfInBounds i true) = true := by
  simp only [headOk, Bool.and_eq_true, Bool.not_eq_true', List.isEmpty_eq_false_iff, List.all_eq_true] at h
  exact h

theorem unmarked {i j : Nat} {done : Array Bool} (hi : done.getD i true = false) (hij : i ≠ j) : done.setIfInBounds i true ≠ done.setIfInBounds j true := by
  intro e
  have h1 : (done.setIfInBounds i true).getD i false = true := by
    by_cases hlt : i < done.size
    · simp [hlt]
    · simp [Array.getElem?_eq_none (Nat.le_of_not_lt hlt)] at hi
  rw [e] at h1
  have h2 : (done.setIfInBounds j true).getD i false = done.getD i false := getD_set_ne false (Ne.symm hij)
  rw [h2] at h1
  by_cases hlt : i < done.size
  · simp [hlt] at hi h1
    rw [hi] at h1
    cases h1
  · simp [Array.getElem?_eq_none (Nat.le_of_not_lt hlt)] at hi

/-- What may come up first may be taken first. -/
theorem HeadIn.first {L : Array Bool → Act → Prop} {M : Array Bool} {i : Nat} {oi : Oper} {v : Value} (hi : ops[i]? = some oi) (hsel : ∀ (j : Nat) (o : Oper) cs b, ops[j]? = some o → o.op ≠ .select cs b) :
    ∀ (f : Nat) (done : Array Bool) (a : Act), headOk ops M (f + 1) done = true →
      (∀ j oj, ops[j]? = some oj → j ≠ i → done.getD j true = false → (∀ e ∈ oj.after, Region.binds .any e = true → e.on ≠ i) → oi.apart ops oj = true) →
      i ∈ Region.ready .any ops done → YieldsQuiet F n P ops C oi v a → HeadIn F n P ops C L f (done.setIfInBounds i true) (a.put oi.dst v) → HeadIn F n P ops C L (f + 1) done a := by
  intro f
  induction f with
  | zero =>
    intro done a hok _ hr hy H
    obtain ⟨hne, hall⟩ := headOk_ready hok
    refine ⟨hne, fun j hj => ?_⟩
    by_cases hji : j = i
    · subst hji
      exact hy.qOpIn hi H
    · have e1 : done.setIfInBounds i true = M := by simpa [headOk] using hall i hr
      have e2 : done.setIfInBounds j true = M := by simpa [headOk] using hall j hj
      exact absurd (e1.trans e2.symm) (unmarked (mem_ready.1 hr).1 (Ne.symm hji))
  | succ f ih =>
    intro done a hok hfree hr hy H
    obtain ⟨hne, hall⟩ := headOk_ready hok
    refine ⟨hne, fun j hj => ?_⟩
    by_cases hji : j = i
    · subst hji
      exact hy.qOpIn hi H
    · obtain ⟨hjun, oj, hoj, hafter⟩ := mem_ready.1 hj
      have hno : ∀ e ∈ oj.after, Region.binds .any e = true → e.on ≠ i := by
        intro e he hb heq
        have h1 := hafter e he hb
        have h2 := (mem_ready.1 hr).1
        rw [heq] at h1
        by_cases hlt : i < done.size
        · simp [hlt] at h1 h2
          rw [h2] at h1
          cases h1
        · simp [Array.getElem?_eq_none (Nat.le_of_not_lt hlt)] at h1
      have hq := qOpIn_put hoj (hfree j oj hoj hji hjun hno) (fun cs b => hsel i oi cs b hi) (fun cs b => hsel j oj cs b hoj) hy (H.2 j (ready_mono hj hji))
      refine qOpIn_mono (fun a' ⟨hy', hH⟩ => ih _ a' (hall j hj) ?_ (ready_mono hr (Ne.symm hji)) hy' ?_) hq
      · intro k ok hk hki hun hafter'
        refine hfree k ok hk hki ?_ hafter'
        by_cases hjk : j = k
        · subst hjk
          exact hjun
        · rwa [getD_set_ne true hjk] at hun
      · rw [Array.setIfInBounds_comm _ _ hji]
        exact hH

/-- The first operations by the walk of the text's order. -/
theorem headIn_lex {Q : Act → Prop} {M : Array Bool} {g : Nat} (hs : Region.noSelect ops = true) : ∀ (l : List Oper) (k : Nat) (done : Array Bool) (a : Act), (∀ j, j < l.length → l[j]? = ops[k + j]?) →
    Region.lexHead .any ops g l.length k done = true → headOk ops M l.length done = true → wpQuietIn F n P ops C Q l a → HeadIn F n P ops C (fun d a => d = M ∧ Q a) l.length done a
  | [], _, _, _, _, _, hM, h => ⟨by simpa [headOk] using hM, h⟩
  | o :: l, k, done, a, hl, hB, hM, h => by
    have h0 : ops[k]? = some o := by simpa using (hl 0 (by simp)).symm
    simp only [List.length_cons, Region.lexHead, Bool.and_eq_true] at hB
    obtain ⟨⟨hr, hf⟩, hB'⟩ := hB
    have hr' : k ∈ Region.ready .any ops done := by simpa using hr
    have hq : qOpIn F n P ops C k (wpQuietIn F n P ops C Q l) a := by
      unfold qOpIn
      simp only [h0]
      exact h
    obtain ⟨v, hy, hK⟩ := yieldsQuiet_of_qOpIn h0 hq
    refine HeadIn.first h0 (Region.noSelect_spec hs) l.length done a hM (Region.free_spec h0 hf) hr' hy ?_
    refine headIn_lex hs l (k + 1) _ _ (fun j hj => ?_) hB' ((headOk_ready hM).2 k hr') hK
    have := hl (j + 1) (by simp; omega)
    simpa [Nat.add_assoc, Nat.add_comm 1 j] using this

theorem headIn_sound {L : Array Bool → Act → Prop} {Q : Exit → Act → World → Prop} {g : Nat} (hro : F.round = none) (hL : ∀ d a w, C w → L d a → wpAnyIn F n P .any ops Q g d a w) :
    ∀ (f : Nat) (done : Array Bool) (a : Act) (w : World), C w → HeadIn F n P ops C L f done a → wpAnyIn F n P .any ops Q (f + g) done a w
  | 0, done, a, w, hw, h => by rw [Nat.zero_add]; exact hL done a w hw h
  | f + 1, done, a, w, hw, h => by
    rw [Nat.add_right_comm]
    exact ⟨fun e => absurd e h.1, fun i hi => wpOpIn_of_qOpIn hro hw (fun a' w' hw' h' => headIn_sound hro hL f _ a' w' hw' h') (h.2 i hi)⟩

/-- What comes one by one. -/
theorem anyIn_seq {Q : Exit → Act → World → Prop} : ∀ (l : List Oper) (k : Nat) (done : Array Bool) (a : Act) (w : World), (∀ j, l[j]? = ops[k + j]?) →
    Region.seqB .any ops l.length k done = true → wpListIn F n P ops Q l a w → wpAnyIn F n P .any ops Q l.length done a w
  | [], _, _, _, _, _, hB, h => ⟨by simpa [Region.seqB] using hB, h⟩
  | o :: l, k, done, a, w, hl, hB, h => by
    have h0 : ops[k]? = some o := by simpa using (hl 0).symm
    simp only [List.length_cons, Region.seqB, Bool.and_eq_true, decide_eq_true_eq] at hB
    obtain ⟨hr, hB'⟩ := hB
    refine ⟨fun e => (by rw [hr] at e; cases e), fun i hi => ?_⟩
    rw [hr] at hi
    obtain rfl : i = k := by simpa using hi
    have hop : wpOpIn F n P ops Q i (wpListIn F n P ops Q l) a w := by
      unfold wpOpIn
      simp only [h0]
      exact h
    refine wpOpIn_mono (fun a' w' h' => anyIn_seq l (i + 1) _ a' w' (fun j => ?_) hB' h') hop
    have := hl (j + 1)
    simpa [Nat.add_assoc, Nat.add_comm 1 j] using this

/-- What a kernel may reckon of a region: its first m operations come in whatever order, the others behind them, one by one. -/
def tailOk (ops : Array Oper) (m : Nat) (M : Array Bool) : Bool :=
  Region.noSelect ops && decide (m ≤ ops.size) && Region.lexHead .any ops (ops.size - m) m 0 (Array.replicate ops.size false) && headOk ops M m (Array.replicate ops.size false) && Region.seqB .any ops (ops.size - m) m M

/-- A region that draws: the head by its walk in the class of worlds that keep what lay there; the tail in each such world. -/
theorem regionIn_tail {id : Nat} {Q : Exit → Act → World → Prop} {a : Act} {w : World} {l : List Oper} (m : Nat) (M : Array Bool) (hro : F.round = none) (hm : P.follows .mixedOrders = true) (hB : tailOk l.toArray m M = true)
    (h : wpQuietIn F n P l.toArray (fun w' => ∃ p : Regrown, w' = grow (redrawn w p.d) p.os) (fun a' => ∀ w', (∃ p : Regrown, w' = grow (redrawn w p.d) p.os) → wpListIn F n P l.toArray Q (l.drop m) a' w') (l.take m) a) :
    (Code.region id l.toArray true).wpIn F n P Q a w := by
  simp only [tailOk, Bool.and_eq_true, decide_eq_true_eq] at hB
  obtain ⟨⟨⟨⟨hs, hmn⟩, hlex⟩, hok⟩, hseq⟩ := hB
  have hml : m ≤ l.length := by simpa using hmn
  have htl : (l.take m).length = m := by simp; omega
  have hdl : (l.drop m).length = l.toArray.size - m := by simp
  refine wpIn_region_any hm ?_
  have hC : (fun w' => ∃ p : Regrown, w' = grow (redrawn w p.d) p.os) { w with drawn := w.drawn + 1 } := ⟨⟨w.drawn + 1, #[]⟩, by rw [grow_empty]; rfl⟩
  have H := headIn_lex (F := F) (n := n) (M := M) (g := l.toArray.size - m) hs (l.take m) 0 (Array.replicate l.toArray.size false) a (fun j hj => by rw [htl] at hj; simp [hj]) (by rw [htl]; exact hlex) (by rw [htl]; exact hok) h
  rw [htl] at H
  have R := headIn_sound (Q := Q) (g := l.toArray.size - m) hro (fun d a' w' hw' ⟨e, hq⟩ => by
    subst e
    have := anyIn_seq (F := F) (n := n) (P := P) (Q := Q) (ops := l.toArray) (l.drop m) m d a' w' (fun j => by simp [List.getElem?_drop]) (by rw [hdl]; exact hseq) (hq w' hw')
    rwa [hdl] at this) m _ a _ hC H
  rwa [show m + (l.toArray.size - m) = l.toArray.size by simp; omega] at R
end

end Go.Proofs.YtjbjjfndkpcciaaGreatDoor

/- A region that draws its order, within a round of a range over a function: its operations read, or call what makes memory of its own; none of them defers. One walk of the text's order serves. Own work; no statement. -/
set_option linter.unusedSimpArgs false
set_option linter.unusedVariables false
namespace Go.Proofs.YtjbjjfndkpcciaaGreatDoor
open Go.RowKit Go.Sort

section
variable {F : Fence} {n : Nat} {P : Program} {ops : Array Oper} {md : Region.Mode} {C : World → Prop}

/-- No operation of these defers. -/
def noDefer (ops : Array Oper) : Bool := ops.toList.all fun o => match o.op with | .defer _ => false | _ => true

theorem noDefer_spec (h : noDefer ops = true) {i : Nat} {o : Oper} (hi : ops[i]? = some o) : ∀ c, o.op ≠ .defer c := by
  intro c e
  have hm : o ∈ ops.toList := by simpa using Array.mem_of_getElem? hi
  have := List.all_eq_true.1 h o hm
  rw [e] at this
  cases this

theorem wpIn_of_quiet_r {o : Oper} {a : Act} {K : Act → Prop} {K' : Act → World → Prop} {Q' : Exit → Act → World → Prop} {w : World} (hnd : ∀ c, o.op ≠ .defer c) (hw : C w) (h : ∀ a w', C w' → K a → K' a w')
    (ha : o.askedIn F P a C) (hh : o.quietIn F n P a C K) : o.wpIn F n P a w K' Q' := by
  obtain ⟨v, h1, h2⟩ := hh
  have h3 := h1 w hw
  unfold Oper.quietAtIn at h3
  unfold Oper.wpIn
  refine ⟨ha w hw, ?_⟩
  rw [Oper.semAt_eq _ _ _ hnd]
  generalize (execOp a.eval o).run P w = r at *
  cases r with
  | ok x w' =>
    cases x <;> simp only [Oper.quietUponIn] at h3 <;> simp only [Oper.uponIn]
    case value u =>
      obtain ⟨e1, e2⟩ := h3
      rw [e1, e2]
      exact h _ _ hw h2
    case skip =>
      obtain ⟨e1, e2⟩ := h3
      rw [e1, ← e2]
      exact h _ _ hw h2
    case enter f args =>
      obtain ⟨e1, hd, hc⟩ := h3
      rw [e1]
      exact ⟨hd, hc.mono fun e w'' ⟨he, hw''⟩ => by subst he; exact h _ _ hw'' h2⟩
  | halt x w' => simp only [Oper.quietUponIn] at h3

theorem wpOpIn_of_qOpIn_r {i : Nat} {a : Act} {K : Act → Prop} {K' : Act → World → Prop} {Q' : Exit → Act → World → Prop} {w : World} (hnd : noDefer ops = true) (hC : C w) (h : ∀ a w', C w' → K a → K' a w')
    (hh : qOpIn F n P ops C i K a) : wpOpIn F n P ops Q' i K' a w := by
  unfold qOpIn at hh
  unfold wpOpIn
  split
  · rename_i ho; simp only [ho] at hh; exact h _ _ hC hh
  · rename_i o ho
    simp only [ho] at hh
    obtain ⟨ha, hh⟩ := hh
    split
    · rename_i hw; simp only [hw, if_true] at hh; exact wpIn_of_quiet_r (noDefer_spec hnd ho) hC h ha hh
    · rename_i hw; simp only [hw] at hh; exact ⟨ha w hC, h _ _ hC hh⟩

theorem wpAnyIn_of_quiet_r {Q : Act → Prop} {Q' : Exit → Act → World → Prop} (hnd : noDefer ops = true) (hQ : ∀ a w, C w → Q a → Q' .normal a w) : ∀ (fuel : Nat) (listed : Array Bool) (a : Act) (w : World), C w →
    wpAnyQIn F n P md ops C Q fuel listed a → wpAnyIn F n P md ops Q' fuel listed a w
  | 0, _, _, _, hw, h => ⟨h.1, hQ _ _ hw h.2⟩
  | fuel + 1, _, _, _, hw, h => ⟨fun h0 => hQ _ _ hw (h.1 h0), fun i hi => wpOpIn_of_qOpIn_r hnd hw (fun a' w' hw' => wpAnyIn_of_quiet_r hnd hQ fuel _ a' w' hw') (h.2 i hi)⟩

theorem wpIn_region_quiet_r {id : Nat} {Q : Exit → Act → World → Prop} {a : Act} {w : World} (hnd : noDefer ops = true) (hm : P.follows .mixedOrders = true) (hB : Region.lexB .any ops = true) (hC : C { w with drawn := w.drawn + 1 })
    (h : wpQuietIn F n P ops C (fun a' => ∀ w', C w' → Q .normal a' w') ops.toList a) : (Code.region id ops true).wpIn F n P Q a w := by
  simp only [Region.lexB, Bool.and_eq_true] at hB
  refine wpIn_region_any hm (wpAnyIn_of_quiet_r (Q := fun a' => ∀ w', C w' → Q .normal a' w') hnd (fun _ w' hw' h => h w' hw') _ _ _ _ hC ?_)
  have := wpAnyQIn_lex (F := F) (n := n) (C := C) (md := .any) hB.1 ops.toList 0 (Array.replicate ops.size false) a (by simp) (by simpa using hB.2) h
  simpa using this

theorem wpIn_region_quiet_below_r {id : Nat} {Q : Exit → Act → World → Prop} {a : Act} {w : World} {l : List Oper} (hnd : noDefer l.toArray = true) (hm : P.follows .mixedOrders = true) (hB : Region.lexB .any l.toArray = true)
    (h : wpQuietIn F n P l.toArray (fun w' => ∃ p : Regrown, w' = grow (redrawn w p.d) p.os) (fun a' => ∀ w', (∃ p : Regrown, w' = grow (redrawn w p.d) p.os) → Q .normal a' w') l a) : (Code.region id l.toArray true).wpIn F n P Q a w :=
  wpIn_region_quiet_r (C := fun w' => ∃ p : Regrown, w' = grow (redrawn w p.d) p.os) hnd hm hB ⟨⟨w.drawn + 1, #[]⟩, by rw [grow_empty]; rfl⟩ (by simpa using h)

/-- A callee's contract, met in a world of the class, within a round. -/
theorem regrown_round {r lp : Nat} {f : FuncId} {args : Array Value} {w : World} {d : Nat} {os : Array Obj} {v : Value}
    (h : Calls P f args (grow (redrawn w d) os) fun e w' => e = .returned v ∧ Below (grow (redrawn w d) os).heap.size (grow (redrawn w d) os) w') :
    CallsIn (Fence.wide.inRound lp) r P f args (grow (redrawn w d) os) fun e w'' => e = .returned v ∧ ∃ p : Regrown, w'' = grow (redrawn w p.d) p.os :=
  CallsIn.inRound lp (CallsIn.regrown_of ((callsIn_wide (n := r)).2 h))
end

end Go.Proofs.YtjbjjfndkpcciaaGreatDoor

/- Tail's law within a round, and for draws alone. Own work; no statement. -/
set_option linter.unusedSimpArgs false
set_option linter.unusedVariables false
namespace Go.Proofs.YtjbjjfndkpcciaaGreatDoor
open Go.RowKit Go.Sort

section
variable {F : Fence} {n : Nat} {P : Program} {ops : Array Oper} {C : World → Prop}

theorem headIn_sound_r {L : Array Bool → Act → Prop} {Q : Exit → Act → World → Prop} {g : Nat} (hnd : noDefer ops = true) (hL : ∀ d a w, C w → L d a → wpAnyIn F n P .any ops Q g d a w) :
    ∀ (f : Nat) (done : Array Bool) (a : Act) (w : World), C w → HeadIn F n P ops C L f done a → wpAnyIn F n P .any ops Q (f + g) done a w
  | 0, done, a, w, hw, h => by rw [Nat.zero_add]; exact hL done a w hw h
  | f + 1, done, a, w, hw, h => by
    rw [Nat.add_right_comm]
    exact ⟨fun e => absurd e h.1, fun i hi => wpOpIn_of_qOpIn_r hnd hw (fun a' w' hw' h' => headIn_sound_r hnd hL f _ a' w' hw' h') (h.2 i hi)⟩

theorem regionIn_tail_r {id : Nat} {Q : Exit → Act → World → Prop} {a : Act} {w : World} {l : List Oper} (m : Nat) (M : Array Bool) (hnd : noDefer l.toArray = true) (hm : P.follows .mixedOrders = true) (hB : tailOk l.toArray m M = true)
    (h : wpQuietIn F n P l.toArray (fun w' => ∃ k, w' = w.drewN k) (fun a' => ∀ w', (∃ k, w' = w.drewN k) → wpListIn F n P l.toArray Q (l.drop m) a' w') (l.take m) a) :
    (Code.region id l.toArray true).wpIn F n P Q a w := by
  simp only [tailOk, Bool.and_eq_true, decide_eq_true_eq] at hB
  obtain ⟨⟨⟨⟨hs, hmn⟩, hlex⟩, hok⟩, hseq⟩ := hB
  have hml : m ≤ l.length := by simpa using hmn
  have htl : (l.take m).length = m := by simp; omega
  have hdl : (l.drop m).length = l.toArray.size - m := by simp
  refine wpIn_region_any hm ?_
  have hC : (fun w' => ∃ k, w' = w.drewN k) { w with drawn := w.drawn + 1 } := ⟨1, rfl⟩
  have H := headIn_lex (F := F) (n := n) (M := M) (g := l.toArray.size - m) hs (l.take m) 0 (Array.replicate l.toArray.size false) a (fun j hj => by rw [htl] at hj; simp [hj]) (by rw [htl]; exact hlex) (by rw [htl]; exact hok) h
  rw [htl] at H
  have R := headIn_sound_r (Q := Q) (g := l.toArray.size - m) hnd (fun d a' w' hw' ⟨e, hq⟩ => by
    subst e
    have := anyIn_seq (F := F) (n := n) (P := P) (Q := Q) (ops := l.toArray) (l.drop m) m d a' w' (fun j => by simp [List.getElem?_drop]) (by rw [hdl]; exact hseq) (hq w' hw')
    rwa [hdl] at this) m _ a _ hC H
  rwa [show m + (l.toArray.size - m) = l.toArray.size by simp; omega] at R
theorem regionIn_quiet_r {id : Nat} {Q : Exit → Act → World → Prop} {a : Act} {w : World} {l : List Oper} (hnd : noDefer l.toArray = true) (hm : P.follows .mixedOrders = true) (hB : Region.lexB .any l.toArray = true)
    (h : wpQuietIn F n P l.toArray (fun w' => ∃ k, w' = w.drewN k) (fun a' => ∀ w', (∃ k, w' = w.drewN k) → Q .normal a' w') l a) : (Code.region id l.toArray true).wpIn F n P Q a w :=
  wpIn_region_quiet_r (C := fun w' => ∃ k, w' = w.drewN k) hnd hm hB ⟨1, rfl⟩ (by simpa using h)
end

end Go.Proofs.YtjbjjfndkpcciaaGreatDoor

/- disk's shorten, Crash, Cut. Own work; no statement. -/
set_option linter.unusedSimpArgs false
set_option linter.unusedVariables false
namespace Go.Proofs.YtjbjjfndkpcciaaGreatDoor
open Go.RowKit Go.Shelf

attribute [local go_sem] Oper.semAt_some

/-- The bytes that are left when the lines from n on, as far as the k-th, are taken off. -/
def leftOf (l : List ByteArray) (n k : Nat) : Nat := bytesOf l - bytesOf ((l.take k).drop n)

theorem leftOf_le (l : List ByteArray) (n k : Nat) : leftOf l n k ≤ bytesOf l := Nat.sub_le _ _
theorem leftOf_low (l : List ByteArray) (n k : Nat) (h : k ≤ n) : leftOf l n k = bytesOf l := by
  unfold leftOf
  rw [List.drop_eq_nil_of_le (by simp; omega)]
  simp [bytesOf]
theorem leftOf_step (l : List ByteArray) (n k : Nat) (h : n ≤ k) (hk : k < l.length) : (leftOf l n (k + 1) : Int) = (leftOf l n k : Int) - ((l[k].size : Int) + 1) ∧ l[k].size + 1 ≤ leftOf l n k := by
  have h1 : (l.take (k + 1)).drop n = (l.take k).drop n ++ [l[k]] := by
    rw [List.take_add_one, List.getElem?_eq_getElem hk, Option.toList_some, List.drop_append_of_le_length (by simp; omega)]
  have h2 : bytesOf ((l.take k).drop n) + (l[k].size + 1) ≤ bytesOf l := by
    have e1 := bytesOf_take l (k + 1)
    have e2 := bytesOf_take (l.take (k + 1)) n
    rw [h1, bytesOf_append] at e2
    simp [bytesOf] at e2 e1 ⊢
    omega
  have h3 : bytesOf ((l.take (k + 1)).drop n) = bytesOf ((l.take k).drop n) + (l[k].size + 1) := by rw [h1, bytesOf_append]; simp [bytesOf]
  unfold leftOf
  rw [h3]
  omega
theorem leftOf_end (l : List ByteArray) (n : Nat) : leftOf l n l.length = bytesOf (l.take n) := by
  unfold leftOf
  rw [List.take_of_length_le (Nat.le_refl _)]
  have := bytesOf_take l n
  omega

/-- A disk while its lines are counted: the number of its bytes lags behind. -/
structure InShort (W : World) (B p : Nat) (v : Value) (D : DiskD) (n k s : Nat) : Prop where
  b0 : Boxed W s 78 (.pointer (some ⟨p, 0, none⟩))
  b1 : Boxed W (s + 1) 3 (.int .i64 (n : Int))
  p : W.heap[p]? = some (.cells #[.int .i64 D.room, .int .i64 (leftOf D.lines n k), .int .i64 D.lasts, v] 129 (0, 0))
  r : W.ownsRow B 9 1 v D.lines.length (D.lines.map Value.string)

theorem InShort.own {X Y : World} {row : Option Nat} {B p : Nat} {v : Value} {D : DiskD} {n k s : Nat} (h : InShort X B p v D n k s) (hg : X.grownBy Y row) (hrow : ∀ r, row = some r → ∃ o : Obj, X.heap[r]? = some o ∧ o.isCells = false) : InShort Y B p v D n k s :=
  ⟨boxed_own' hg hrow h.b0, boxed_own' hg hrow h.b1, (own_keeps hg hrow h.p).trans h.p, ownsRow_own' hg hrow h.r⟩

theorem InShort.skip {W : World} {B p : Nat} {v : Value} {D : DiskD} {n k s : Nat} (h : InShort W B p v D n k s) (hk : k < n) : InShort W B p v D n (k + 1) s :=
  ⟨h.b0, h.b1, by rw [leftOf_low _ _ _ (by omega), ← leftOf_low D.lines n k (by omega)]; exact h.p, h.r⟩
theorem InShort.step {W W' : World} {B p : Nat} {v : Value} {D : DiskD} {n k s : Nat} {x : Int} (h : InShort W B p v D n k s) (hw : W'.heap = W.heap) (hL : (leftOf D.lines n (k + 1) : Int) = x) (hp : p < s) : InShort (W'.setCell ⟨p, 1, none⟩ (.int .i64 x)) B p v D n (k + 1) s := by
  have ht : ∀ k, k ≠ p → (W'.setCell ⟨p, 1, none⟩ (.int .i64 x)).heap[k]? = W.heap[k]? := fun k hk => (Below.heap_setCell _ _ _ _ hk).trans (by rw [hw])
  refine ⟨boxed_of_heap h.b0 (ht _ (by omega)), boxed_of_heap h.b1 (ht _ (by omega)), ?_, ownsRow_of_heap h.r fun k e => ht k fun e' => row_not h.r h.p (by decide) (by rw [e, e'])⟩
  rw [hL]
  exact setAt (j := 1) (show W'.heap[p]? = _ by rw [hw]; exact h.p) (.int .i64 x)
theorem keepsOthers_same {W W' : World} (h : W'.heap = W.heap) : KeepsOthers W W' := ⟨by rw [h]; exact Nat.le_refl _, fun k o e _ => by rw [h]; exact e⟩

set_option maxRecDepth 100000 in
set_option maxHeartbeats 4000000 in
theorem diskShorten_calls (B p : Nat) (g : Option Nat) (D : DiskD) (n : Nat) (w : World) (hd : IsDisk w B p g D) (hn : n ≤ D.lines.length) :
    Calls Tryz.prog 98 #[.pointer (some ⟨p, 0, none⟩), .int .i64 (n : Int)] w fun e w' => e = .returned (.tuple #[]) ∧ IsDisk w' B p g ⟨D.room, D.lines.take n, n⟩ ∧ Touch (onDisk p g) w w' := by
  obtain ⟨W0, hW0⟩ : ∃ W0, (w.alloc (.cells #[.pointer (some ⟨p, 0, none⟩)] 78)).alloc (.cells #[.int .i64 (n : Int)] 3) = W0 := ⟨_, rfl⟩
  have HB0 : Below w.heap.size w W0 := by rw [← hW0]; exact ((Below.refl _ w).alloc (Nat.le_refl _) _).alloc (by simp) _
  have hs0 : W0.heap.size = w.heap.size + 2 := by rw [← hW0]; simp
  have x0 : Boxed W0 w.heap.size 78 (.pointer (some ⟨p, 0, none⟩)) := by rw [← hW0]; exact (Boxed.new w _ _).alloc _
  have x1 : Boxed W0 (w.heap.size + 1) 3 (.int .i64 (n : Int)) := by
    have := Boxed.new (w.alloc (.cells #[.pointer (some ⟨p, 0, none⟩)] 78)) 3 (.int .i64 (n : Int))
    rw [hW0, World.size_alloc] at this
    exact this
  have C := hide (diskLines_calls B p g D W0 (hd.new HB0))
  have hp := hd.lt
  have hl := hd.len
  have q0 := x0.cell
  have Hd := hide hd
  have HW := hide hW0
  clear hW0 hd
  refine (callsIn_wide (n := 5)).1 ?_
  refine callsIn_of_wp_marks Tryz.func98 rfl trivial ?_ rfl
  simp only [Tryz.ntmps98, List.size_toArray, List.length_cons, List.length_nil, Nat.reduceAdd, Nat.reduceSub, Array.replicate_succ, Array.replicate_zero, List.push_toArray, List.append_toArray, List.nil_append, List.cons_append]
  refine wpIn_wide.2 ?_
  go_wp2_with fail
  go_step3
  go_wp2_with fail
  rw [HW.out]
  go_step3
  go_wp2_with fail
  refine C.out.mono ?_
  rintro e w1 ⟨b, rfl, hb, hseq, hB1⟩
  go_wp2_with fail
  obtain ⟨vs, gs, hbox, hvs, hrow⟩ := hseq
  have hB01 := HB0.trans (hB1.mono HB0.size)
  obtain ⟨a, cap, -, -, -, -, -, hv, hr, hp'⟩ := Hd.out.open
  have s1 := hB1.size
  have i0 : InShort w1 B p (.slice a D.lines.length cap) D n 0 w.heap.size := ⟨boxed_of_heap x0 (hB1.block _ (by omega)), boxed_of_heap x1 (hB1.block _ (by omega)), by rw [leftOf_low _ _ _ (Nat.zero_le _)]; exact (hB01.block p hp).trans hp', ownsRow_of_heap hr fun k e => hB01.block k (hr.lt k e).2⟩
  have hin : ∀ k, onDisk b gs k → k < w1.heap.size ∧ k ≠ p := fun k hk => by
    rcases hk with rfl | e
    · exact ⟨ltAt hbox, by omega⟩
    · exact ⟨(hrow.lt k (hvs.trans e)).2, fun e' => row_not hrow i0.p (by decide) (by rw [hvs, e, e'])⟩
  have Hr := hide hr
  have Hv := hide hv
  have Hin := hide hin
  have u2 := hide (fun s w h => diskSize_calls s w h)
  refine (wpIn_wide (n := 5)).1 ?_
  refine range_lawL (by decide) (gf := 159) (lb := #[.pointer (some ⟨b, 0, none⟩)]) rfl (enters_of Tryz.func159 (by kernel_rfl) rfl)
    (lines_seq 4 (by decide) b vs gs D.lines (by omega) w1 hbox hvs hrow) keepsSeq_t (keepsSeq_b fun k hk => (hin k hk).1) (fun _ => rfl)
    (fun k W => InShort W B p (.slice a D.lines.length cap) D n k w.heap.size ∧ Touch (onDisk p g) w W)
    (fun _ _ _ => False)
    (OwnFrom.and (Own.from (fun k X Y row hs hg hr => hs.own hg hr) _) (ownFrom_touch (by omega)))
    (fun _ _ _ _ _ hs _ _ => hs)
    ⟨i0, touch_new hB01⟩
    (fun x => { tmps := #[.pointer (some ⟨p, 0, none⟩), .int .i64 (n : Int), .pointer (some ⟨w.heap.size, 0, none⟩), .pointer (some ⟨w.heap.size + 1, 0, none⟩), .int .i64 (x.1 : Int), .string x.2, .pointer (some ⟨p, 0, none⟩), .func (.func 159) #[] #[.pointer (some ⟨b, 0, none⟩)], .int .i64 (x.1 : Int), .string x.2, undef, undef, undef, undef, undef, undef, undef, undef, undef, undef, undef, undef, undef, undef, undef, undef, undef, undef, undef, undef, undef, undef, undef, undef, undef, undef, undef, undef, undef, undef], defers := [] }) ?assign ?body ?done ?stop
  case assign =>
    intro l x W K hK
    clear x0 x1 q0 hbox hrow hr hp' i0
    dsimp only [encLine]
    gi_wp2
    exact hK
  case body =>
    clear x0 x1 q0 hbox hrow hr hp' i0 hin
    rintro lp k hk W ⟨hin, hT⟩
    rw [placed_get]
    have hk' : k < D.lines.length := by rw [placed_length] at hk; exact hk
    have c1 := hin.b1.cell
    have c0 := hin.b0.cell
    have e1 := cellsAt hin.p 1
    simp only [List.getElem?_toArray, List.getElem?_cons_zero, List.getElem?_cons_succ] at e1
    have f1 := frozenAt hin.p 1
    have hle := leftOf_le D.lines n k
    by_cases hkn : k < n
    · have hknI : (k : Int) < (n : Int) := by omega
      have I := hide hin
      clear hin
      gi_wp2
      exact ⟨KeepsFrom.refl _ _, fun _ _ => rfl, I.out.skip hkn, hT⟩
    · have hknI : ¬ (k : Int) < (n : Int) := by omega
      obtain ⟨hst, hsz⟩ := leftOf_step D.lines n k (by omega) hk'
      obtain ⟨s, hs⟩ : ∃ s, D.lines[k] = s := ⟨_, rfl⟩
      rw [hs] at hst hsz ⊢
      generalize leftOf D.lines n k = L at *
      have I := hide hin
      clear hin hs
      gi_wp2_with fail
      refine regionIn_tail_r 7 #[true, true, true, true, true, true, true, false, false, false] (by kernel_rfl) (by kernel_rfl) (by kernel_rfl) ?_
      simp only [List.take_succ_cons, List.take_zero, List.drop_succ_cons, List.drop_zero]
      first | gi_big_quiet_step (fail) | quiet_step_in (fail)
      first | gi_big_quiet_step (fail) | quiet_step_in (fail)
      first | gi_big_quiet_step (fail) | quiet_step_in (fail)
      first | gi_big_quiet_step (fail) | quiet_step_in (fail)
      first | gi_big_quiet_step (fail) | quiet_step_in (fail)
      refine wpQuietIn_step (fun _ _ _ _ => trivial) (fun K hK => ?_)
      go_simp
      apply Exists.intro
      refine ⟨fun _ => CallsIn.quiet_of_same (CallsIn.inRound lp (callsIn_wide.2 (u2.out s _ (by omega)))), hK _ ?_⟩
      clear hK K
      first | gi_big_quiet_step (fail) | quiet_step_in (fail)
      refine wpQuietIn_nil ?_
      intro w' hw'
      obtain ⟨nq, rfl⟩ := hw'
      gi_wp2_with fail
      have J := I.out.step (W' := W.drewN nq) rfl hst (by omega)
      refine ⟨((keepsOthers_same (W := W) (W' := W.drewN nq) rfl).trans (KeepsOthers.setCell _ _ _)).from _, fun k hk => Below.heap_setCell _ _ _ _ (Hin.out k hk).2, J, (hT.drewN nq).set _ _ (.inl rfl)⟩
  case done =>
    rintro Dd W hD ⟨h, hT⟩ hK
    rw [placed_length] at h
    have hp1 := h.p
    rw [leftOf_end] at hp1
    have c0 := h.b0.cell
    have c1 := h.b1.cell
    have c3 := cellsAt hp1 3
    simp only [List.getElem?_toArray, List.getElem?_cons_zero, List.getElem?_cons_succ] at c3
    have Hp1 := hide hp1
    have Hh := hide h
    clear x0 x1 q0 hbox hrow hr hp' i0 hin C h hp1
    go_wp2_with fail
    refine region_headT 12 (fun w2 => w2.cell? ⟨w.heap.size, 0, none⟩ = some (.pointer (some ⟨p, 0, none⟩)) ∧ w2.cell? ⟨w.heap.size + 1, 0, none⟩ = some (.int .i64 (n : Int)) ∧ w2.cell? ⟨p, 3, none⟩ = some (.slice a D.lines.length cap)) (by kernel_rfl) (by decide) ?_
    refine HeadT.take 0 (.pointer (some ⟨p, 0, none⟩)) rfl (by kernel_rfl) (.inl ⟨rfl, fun w2 ⟨s0, s1, s2⟩ => by go_simp⟩) ⟨c0, c1, c3⟩ ?_
    refine HeadT.take 1 (.pointer (some ⟨p, 0, none⟩)) rfl (by kernel_rfl) (.inl ⟨rfl, fun w2 ⟨s0, s1, s2⟩ => by go_simp⟩) ⟨c0, c1, c3⟩ ?_
    refine HeadT.take 2 (.pointer (some ⟨p, 0, none⟩)) rfl (by kernel_rfl) (.inl ⟨rfl, fun w2 ⟨s0, s1, s2⟩ => by go_simp⟩) ⟨c0, c1, c3⟩ ?_
    refine HeadT.take 3 (.pointer (some ⟨p, 3, none⟩)) rfl (by kernel_rfl) (.inl ⟨rfl, fun w2 ⟨s0, s1, s2⟩ => by go_simp⟩) ⟨c0, c1, c3⟩ ?_
    refine HeadT.take 4 (.slice a D.lines.length cap) rfl (by kernel_rfl) (.inl ⟨rfl, fun w2 ⟨s0, s1, s2⟩ => by go_simp⟩) ⟨c0, c1, c3⟩ ?_
    refine HeadT.take 5 (.int .i64 (n : Int)) rfl (by kernel_rfl) (.inl ⟨rfl, fun w2 ⟨s0, s1, s2⟩ => by go_simp⟩) ⟨c0, c1, c3⟩ ?_
    refine HeadT.take 6 (.pointer (some ⟨p, 0, none⟩)) rfl (by kernel_rfl) (.inl ⟨rfl, fun w2 ⟨s0, s1, s2⟩ => by go_simp⟩) ⟨c0, c1, c3⟩ ?_
    refine HeadT.take 7 (.pointer (some ⟨p, 0, none⟩)) rfl (by kernel_rfl) (.inl ⟨rfl, fun w2 ⟨s0, s1, s2⟩ => by go_simp⟩) ⟨c0, c1, c3⟩ ?_
    refine HeadT.take 8 (.pointer (some ⟨p, 3, none⟩)) rfl (by kernel_rfl) (.inl ⟨rfl, fun w2 ⟨s0, s1, s2⟩ => by go_simp⟩) ⟨c0, c1, c3⟩ ?_
    refine HeadT.take 9 (.slice a D.lines.length cap) rfl (by kernel_rfl) (.inl ⟨rfl, fun w2 ⟨s0, s1, s2⟩ => by go_simp⟩) ⟨c0, c1, c3⟩ ?_
    refine HeadT.take 10 (.int .i64 (D.lines.length : Int)) rfl (by kernel_rfl) (.inl ⟨rfl, fun w2 ⟨s0, s1, s2⟩ => by go_simp⟩) ⟨c0, c1, c3⟩ ?_
    refine HeadT.only 11 (by kernel_rfl) ?_
    have hW : W.ownsRow B 9 1 (.slice a D.lines.length cap) D.lines.length (D.lines.map Value.string) := Hh.out.r
    refine wpOp_call rfl rfl 160 #[.slice a D.lines.length cap, .int .i64 (n : Int), .int .i64 (D.lines.length : Int)] (by go_simp) (deleteTail_calls B n cap a D.lines W.drew hW hn) ?_
    rintro e w2 ⟨rfl, hown, ht2⟩
    have hne : ∀ (k : Nat) (c : Array Value) (t : TypeId) (f : Nat × Nat), W.heap[k]? = some (Obj.cells c t f) → t ≠ 9 → w2.heap[k]? = W.heap[k]? := fun k c t f e ht => ht2.block k (ltAt e) fun e' => row_not hW e ht e'.symm
    have hp2 := (hne p _ _ _ Hp1.out (by decide)).trans Hp1.out
    have y0 := boxed_of_heap Hh.out.b0 (hne _ _ _ _ Hh.out.b0 (by decide))
    have y1 := boxed_of_heap Hh.out.b1 (hne _ _ _ _ Hh.out.b1 (by decide))
    have d0 := y0.cell
    have d1 := y1.cell
    have d3 := cellsAt hp2 3
    have d2 := cellsAt hp2 2
    simp only [List.getElem?_toArray, List.getElem?_cons_zero, List.getElem?_cons_succ] at d3 d2
    have l3 := frozenAt hp2 3
    have l2 := frozenAt hp2 2
    refine ⟨_, rfl, ⟨d0, d1, d3⟩, ?_⟩
    refine HeadT.tail rfl (by kernel_rfl) ?_
    have hK2 : w2.heap[Dd]? = some (.deferred (some [])) := by
      refine (ht2.block Dd (ltAt hK) fun e' => ?_).trans hK
      rcases hW.2 with ⟨h0, _⟩ | ⟨g', cap', cur, h0, _, hg', _⟩
      · rw [h0] at e'; cases e'
      · rw [h0] at e'
        obtain rfl : g' = Dd := by simpa [Value.ownBlock] using e'
        rw [hK] at hg'
        simp at hg'
    have T2 : Touch (onDisk p g) w w2 := hT.trans ((⟨ht2.os, ht2.tape, ht2.output, ht2.size, ht2.block⟩ : Touch _ W w2).mono fun k _ e => .inr (hv.symm.trans e))
    have Hp2 := hide hp2
    have Ho := hide hown
    have HT := hide T2
    have HK := hide hK2
    clear c0 c1 c3 hK hT hown hp2 ht2 T2 hK2 hne hW
    simp only [List.drop_succ_cons, List.drop_zero]
    go_wp2_with fail
    simp only [noPanic]
    go_wp2_with fail
    obtain ⟨W3, hW3⟩ : ∃ W3, (w2.setCell ⟨p, 3, none⟩ (.slice a n cap)).setCell ⟨p, 2, none⟩ (.int .i64 (n : Int)) = W3 := ⟨_, rfl⟩
    have hp3 : W3.heap[p]? = some (.cells #[.int .i64 D.room, .int .i64 (bytesOf (D.lines.take n)), .int .i64 (n : Int), .slice a n cap] 129 (0, 0)) := by
      rw [← hW3]; exact setAt (j := 2) (setAt (j := 3) Hp2.out _) _
    have hoth : ∀ k, k ≠ p → W3.heap[k]? = w2.heap[k]? := fun k hk => by rw [← hW3]; exact (Below.heap_setCell _ _ _ _ hk).trans (Below.heap_setCell _ _ _ _ hk)
    have T3 : Touch (onDisk p g) w W3 := by rw [← hW3]; exact (HT.out.set _ _ (.inl rfl)).set _ _ (.inl rfl)
    have K3 : W3.heap[Dd]? = some (.deferred (some [])) := (hoth Dd (by omega)).trans HK.out
    have hlen : (D.lines.take n).length = n := by simp; omega
    have R3 : W3.ownsRow B 9 1 (.slice a n cap) n ((D.lines.take n).map Value.string) := ownsRow_of_heap Ho.out fun k e => hoth k fun e' => row_not Ho.out Hp2.out (by decide) (by rw [e, e'])
    have I3 : IsDisk W3 B p g ⟨D.room, D.lines.take n, n⟩ := by
      refine ⟨⟨Hd.out.ok.low, Hd.out.ok.high, ?_, by simp; omega⟩, Hd.out.low, .slice a n cap, (by rw [← hv]; cases a <;> rfl), hp3, ?_⟩
      · have := bytesOf_take D.lines n
        have := Hd.out.ok.fits
        dsimp only
        omega
      · dsimp only
        rw [hlen]
        exact R3
    rw [hW3]
    clear d0 d1 d2 d3 l2 l3 hW3
    refine ⟨by simp, .inl ⟨_, _, rfl, run_takeDeferred K3, ?_⟩⟩
    have hg := grownBy_putObj' W3 Dd (.deferred none)
    have hr : ∀ r, some Dd = some r → ∃ o : Obj, W3.heap[r]? = some o ∧ o.isCells = false := fun r e => by cases e; exact ⟨_, K3, rfl⟩
    exact ⟨_, results_none rfl _ _ _, rfl, I3.own hg hr, ownFrom_touch (β := Unit) (show w.heap.size ≤ w.heap.size from Nat.le_refl _) () W3 _ _ T3 hg fun r e => ⟨by cases e; omega, hr r e⟩⟩
  case stop =>
    rintro D c k W _ _ h _
    exact h.elim

end Go.Proofs.YtjbjjfndkpcciaaGreatDoor

/- disk's Crash, Cut. Own work; no statement. -/
set_option linter.unusedSimpArgs false
set_option linter.unusedVariables false
namespace Go.Proofs.YtjbjjfndkpcciaaGreatDoor
open Go.RowKit Go.Shelf

attribute [local go_sem] Oper.semAt_some

/-- How many first lines are whole within so many bytes. -/
def keepN : List ByteArray → Int → Nat
  | [], _ => 0
  | s :: r, k => if (s.size : Int) + 1 ≤ k then keepN r (k - ((s.size : Int) + 1)) + 1 else 0

theorem keepN_le : ∀ (l : List ByteArray) (k : Int), keepN l k ≤ l.length
  | [], _ => by simp [keepN]
  | s :: r, k => by
    unfold keepN
    split
    · have := keepN_le r (k - ((s.size : Int) + 1))
      simp
      omega
    · simp

/-- How many lines a crash lets stay. -/
def wholeN (D : DiskD) (keep : Int) : Nat := D.lasts + keepN (D.lines.drop D.lasts) keep
def crashD (D : DiskD) (keep : Int) : DiskD := ⟨D.room, D.lines.take (wholeN D keep), wholeN D keep⟩

theorem wholeN_le {D : DiskD} (h : D.ok) (keep : Int) : wholeN D keep ≤ D.lines.length := by
  have := keepN_le (D.lines.drop D.lasts) keep
  have := h.lasts
  unfold wholeN
  simp at *
  omega

/-- What the walk over the lines has found by the k-th: so many bytes are left of keep. -/
def CrashAt (D : DiskD) (keep : Int) (k : Nat) (left : Int) : Prop :=
  left ≤ max keep 0 ∧ (keep ≤ left ∨ 0 ≤ left) ∧ wholeN D keep = max k D.lasts + keepN (D.lines.drop (max k D.lasts)) left

theorem crashAt_start (D : DiskD) (keep : Int) : CrashAt D keep 0 keep := ⟨by omega, .inl (by omega), by simp [wholeN]⟩
theorem crashAt_low {D : DiskD} {keep left : Int} {k : Nat} (h : CrashAt D keep k left) (hk : k < D.lasts) : CrashAt D keep (k + 1) left := by
  refine ⟨h.1, h.2.1, ?_⟩
  rw [h.2.2, show max (k + 1) D.lasts = max k D.lasts by omega]
theorem crashAt_step {D : DiskD} {keep left : Int} {k : Nat} (h : CrashAt D keep k left) (hk : D.lasts ≤ k) (hl : k < D.lines.length) (hs : (D.lines[k].size : Int) + 1 ≤ left) : CrashAt D keep (k + 1) (left - ((D.lines[k].size : Int) + 1)) := by
  refine ⟨by have := h.1; omega, .inr (by omega), ?_⟩
  rw [h.2.2, show max k D.lasts = k by omega, show max (k + 1) D.lasts = k + 1 by omega, List.drop_eq_getElem_cons hl, keepN, if_pos hs]
  omega
theorem crashAt_stop {D : DiskD} {keep left : Int} {k : Nat} (h : CrashAt D keep k left) (hk : D.lasts ≤ k) (hl : k < D.lines.length) (hs : ¬ (D.lines[k].size : Int) + 1 ≤ left) : wholeN D keep = k := by
  rw [h.2.2, show max k D.lasts = k by omega, List.drop_eq_getElem_cons hl, keepN, if_neg hs]
  omega
theorem crashAt_end {D : DiskD} {keep left : Int} (h : CrashAt D keep D.lines.length left) (hk : D.lasts ≤ D.lines.length) : wholeN D keep = D.lines.length := by
  rw [h.2.2, show max D.lines.length D.lasts = D.lines.length by omega, List.drop_eq_nil_of_le (Nat.le_refl _)]
  simp [keepN]

/-- Within Crash's loop. -/
structure InCrash (W : World) (B p : Nat) (g : Option Nat) (D : DiskD) (left : Int) (k s : Nat) : Prop where
  b0 : Boxed W s 78 (.pointer (some ⟨p, 0, none⟩))
  b1 : Boxed W (s + 1) 3 (.int .i64 left)
  b2 : Boxed W (s + 2) 3 (.int .i64 (k : Int))
  d : IsDisk W B p g D

theorem InCrash.own {X Y : World} {row : Option Nat} {B p : Nat} {g : Option Nat} {D : DiskD} {left : Int} {k s : Nat} (h : InCrash X B p g D left k s) (hg : X.grownBy Y row) (hrow : ∀ r, row = some r → ∃ o : Obj, X.heap[r]? = some o ∧ o.isCells = false) : InCrash Y B p g D left k s :=
  ⟨boxed_own' hg hrow h.b0, boxed_own' hg hrow h.b1, boxed_own' hg hrow h.b2, h.d.own hg hrow⟩

/-- A disk beside a box. -/
theorem IsDisk.off {W : World} {B p : Nat} {g : Option Nat} {D : DiskD} {b : Nat} {t : TypeId} {c : Array Value} {f : Nat × Nat} (h : IsDisk W B p g D) (hb : W.heap[b]? = some (.cells c t f)) (h1 : t ≠ 129) (h2 : t ≠ 9) : ∀ k, onDisk p g k → k ≠ b := by
  obtain ⟨v, hv, hp, hr⟩ := h.val
  rintro k (rfl | e) rfl
  · rw [hp] at hb
    simp only [Option.some.injEq, Obj.cells.injEq] at hb
    exact h1 hb.2.1.symm
  · exact row_not hr hb h2 (by rw [hv, e])
theorem IsDisk.setBox {W W' : World} {B p : Nat} {g : Option Nat} {D : DiskD} {b : Nat} {t : TypeId} {v v' : Value} (h : IsDisk W B p g D) (hw : W'.heap = W.heap) (hb : Boxed W b t v) (h1 : t ≠ 129) (h2 : t ≠ 9) : IsDisk (W'.setCell ⟨b, 0, none⟩ v') B p g D :=
  h.keep fun k hk => (Below.heap_setCell _ _ _ _ (h.off hb h1 h2 k hk)).trans (by rw [hw])

theorem InCrash.same {W W' : World} {B p : Nat} {g : Option Nat} {D : DiskD} {left : Int} {k s : Nat} (h : InCrash W B p g D left k s) (hw : W'.heap = W.heap) : InCrash W' B p g D left k s :=
  ⟨boxed_of_heap h.b0 (by rw [hw]), boxed_of_heap h.b1 (by rw [hw]), boxed_of_heap h.b2 (by rw [hw]), h.d.keep fun _ _ => by rw [hw]⟩
theorem InCrash.count {W W' : World} {B p : Nat} {g : Option Nat} {D : DiskD} {left : Int} {k s : Nat} (h : InCrash W B p g D left k s) (hw : W'.heap = W.heap) : InCrash (W'.setCell ⟨s + 2, 0, none⟩ (.int .i64 ((k : Int) + 1))) B p g D left (k + 1) s := by
  have ht : ∀ j, j ≠ s + 2 → (W'.setCell ⟨s + 2, 0, none⟩ (.int .i64 ((k : Int) + 1))).heap[j]? = W.heap[j]? := fun j hj => (Below.heap_setCell _ _ _ _ hj).trans (by rw [hw])
  exact ⟨boxed_of_heap h.b0 (ht _ (by omega)), boxed_of_heap h.b1 (ht _ (by omega)), (boxed_of_heap h.b2 (by rw [hw])).set _, h.d.setBox hw h.b2 (by decide) (by decide)⟩
theorem InCrash.spend {W W' : World} {B p : Nat} {g : Option Nat} {D : DiskD} {left left' : Int} {k s : Nat} (h : InCrash W B p g D left k s) (hw : W'.heap = W.heap) : InCrash (W'.setCell ⟨s + 1, 0, none⟩ (.int .i64 left')) B p g D left' k s := by
  have ht : ∀ j, j ≠ s + 1 → (W'.setCell ⟨s + 1, 0, none⟩ (.int .i64 left')).heap[j]? = W.heap[j]? := fun j hj => (Below.heap_setCell _ _ _ _ hj).trans (by rw [hw])
  exact ⟨boxed_of_heap h.b0 (ht _ (by omega)), (boxed_of_heap h.b1 (by rw [hw])).set _, boxed_of_heap h.b2 (ht _ (by omega)), h.d.setBox hw h.b1 (by decide) (by decide)⟩
theorem Touch.setNew {S : Nat → Prop} {w w' : World} (t : Touch S w w') (a : Addr) (v : Value) (h : w.heap.size ≤ a.block) : Touch S w (w'.setCell a v) := t.upper (touch_set (S := fun k => k = a.block) w' a v rfl) fun i e => by rw [e]; exact h

set_option maxRecDepth 100000 in
set_option maxHeartbeats 4000000 in
theorem diskCrash_calls (B p : Nat) (g : Option Nat) (D : DiskD) (keep : Int) (w : World) (hd : IsDisk w B p g D) (hk0 : -9223372036854775808 ≤ keep) (hk1 : keep ≤ 9223372036854775807) :
    Calls Tryz.prog 46 #[.pointer (some ⟨p, 0, none⟩), .int .i64 keep] w fun e w' => e = .returned (.tuple #[]) ∧ IsDisk w' B p g (crashD D keep) ∧ Touch (onDisk p g) w w' := by
  obtain ⟨W0, hW0⟩ : ∃ W0, ((w.alloc (.cells #[.pointer (some ⟨p, 0, none⟩)] 78)).alloc (.cells #[.int .i64 keep] 3)).alloc (.cells #[.int .i64 0] 3) = W0 := ⟨_, rfl⟩
  have HB0 : Below w.heap.size w W0 := by rw [← hW0]; exact (((Below.refl _ w).alloc (Nat.le_refl _) _).alloc (by simp) _).alloc (by simp; omega) _
  have hs0 : W0.heap.size = w.heap.size + 3 := by rw [← hW0]; simp
  have x0 : Boxed W0 w.heap.size 78 (.pointer (some ⟨p, 0, none⟩)) := by rw [← hW0]; exact ((Boxed.new w _ _).alloc _).alloc _
  have x1 : Boxed W0 (w.heap.size + 1) 3 (.int .i64 keep) := by
    have := (Boxed.new (w.alloc (.cells #[.pointer (some ⟨p, 0, none⟩)] 78)) 3 (.int .i64 keep)).alloc (.cells #[.int .i64 0] 3)
    rw [hW0, World.size_alloc] at this
    exact this
  have x2 : Boxed W0 (w.heap.size + 2) 3 (.int .i64 0) := by
    have := Boxed.new ((w.alloc (.cells #[.pointer (some ⟨p, 0, none⟩)] 78)).alloc (.cells #[.int .i64 keep] 3)) 3 (.int .i64 0)
    rw [hW0, World.size_alloc, World.size_alloc] at this
    exact this
  have C := hide (diskLines_calls B p g D W0 (hd.new HB0))
  have hp := hd.lt
  have hl := hd.len
  have q0 := x0.cell
  have Hd := hide hd
  have HW := hide hW0
  clear hW0 hd
  refine (callsIn_wide (n := 5)).1 ?_
  refine callsIn_of_wp_marks Tryz.func46 rfl trivial ?_ rfl
  simp only [Tryz.ntmps46, List.size_toArray, List.length_cons, List.length_nil, Nat.reduceAdd, Nat.reduceSub, Array.replicate_succ, Array.replicate_zero, List.push_toArray, List.append_toArray, List.nil_append, List.cons_append]
  refine wpIn_wide.2 ?_
  go_wp2_with fail
  go_step3
  go_wp2_with fail
  rw [HW.out]
  simp only [Nat.add_assoc, Nat.reduceAdd]
  go_step3
  go_wp2_with fail
  refine C.out.mono ?_
  rintro e w1 ⟨b, rfl, hb, hseq, hB1⟩
  go_wp2_with fail
  obtain ⟨vs, gs, hbox, hvs, hrow⟩ := hseq
  have hB01 := HB0.trans (hB1.mono HB0.size)
  have s1 := hB1.size
  have i0 : InCrash w1 B p g D keep 0 w.heap.size := ⟨boxed_of_heap x0 (hB1.block _ (by omega)), boxed_of_heap x1 (hB1.block _ (by omega)), boxed_of_heap x2 (hB1.block _ (by omega)), Hd.out.new hB01⟩
  have hin : ∀ k, onDisk b gs k → k < w1.heap.size ∧ k ≠ w.heap.size + 1 ∧ k ≠ w.heap.size + 2 := fun k hk => by
    rcases hk with rfl | e
    · exact ⟨ltAt hbox, by omega, by omega⟩
    · exact ⟨(hrow.lt k (hvs.trans e)).2, fun e' => row_not hrow i0.b1 (by decide) (by rw [hvs, e, e']), fun e' => row_not hrow i0.b2 (by decide) (by rw [hvs, e, e'])⟩
  have Hin := hide hin
  have u2 := hide (fun s w h => diskSize_calls s w h)
  refine (wpIn_wide (n := 5)).1 ?_
  refine range_lawL (by decide) (gf := 159) (lb := #[.pointer (some ⟨b, 0, none⟩)]) rfl (enters_of Tryz.func159 (by kernel_rfl) rfl)
    (lines_seq 4 (by decide) b vs gs D.lines (by omega) w1 hbox hvs hrow) keepsSeq_t (keepsSeq_b fun k hk => (hin k hk).1) (fun _ => rfl)
    (fun k W => (∃ left, CrashAt D keep k left ∧ InCrash W B p g D left k w.heap.size) ∧ Touch (onDisk p g) w W)
    (fun c k W => (c = .exit 0 ∧ wholeN D keep = k ∧ ∃ left, InCrash W B p g D left k w.heap.size) ∧ Touch (onDisk p g) w W)
    (OwnFrom.and (Own.from (fun k X Y row hs hg hr => let ⟨l, h1, h2⟩ := hs; ⟨l, h1, h2.own hg hr⟩) _) (ownFrom_touch (by omega)))
    (fun c => OwnFrom.and (Own.from (fun k X Y row hs hg hr => let ⟨h0, h1, l, h2⟩ := hs; ⟨h0, h1, l, h2.own hg hr⟩) _) (ownFrom_touch (by omega)))
    ⟨⟨keep, crashAt_start D keep, i0⟩, touch_new hB01⟩
    (fun x => { tmps := #[.pointer (some ⟨p, 0, none⟩), .int .i64 keep, .pointer (some ⟨w.heap.size, 0, none⟩), .pointer (some ⟨w.heap.size + 1, 0, none⟩), .pointer (some ⟨w.heap.size + 2, 0, none⟩), .int .i64 (x.1 : Int), .string x.2, .pointer (some ⟨p, 0, none⟩), .func (.func 159) #[] #[.pointer (some ⟨b, 0, none⟩)], .int .i64 (x.1 : Int), .string x.2, undef, undef, undef, undef, undef, undef, undef, undef, undef, undef, undef, undef, undef, undef, undef, undef, undef, undef, undef, undef, undef], defers := [] }) ?assign ?body ?done ?stop
  case assign =>
    intro l x W K hK
    clear x0 x1 x2 q0 hbox hrow i0
    dsimp only [encLine]
    gi_wp2
    exact hK
  case body =>
    clear x0 x1 x2 q0 hbox hrow i0 hin
    rintro lp k hk W ⟨⟨left, hat, hin⟩, hT⟩
    rw [placed_get]
    have hk' : k < D.lines.length := by rw [placed_length] at hk; exact hk
    have hlast := Hd.out.ok.lasts
    obtain ⟨aa, cap, -, -, e2, -, -, -, -, -⟩ := hin.d.open
    have c0 := hin.b0.cell
    have c1 := hin.b1.cell
    have c2 := hin.b2.cell
    have f1 := hin.b1.frozen
    have f2 := hin.b2.frozen
    have hl0 : -9223372036854775808 ≤ left := by have := hat.2.1; omega
    have hl1 : left ≤ 9223372036854775807 := by have := hat.1; omega
    have hsz := bytesOf_mem (List.getElem_mem hk')
    by_cases hkn : k < D.lasts
    · have hknI : (k : Int) < (D.lasts : Int) := by omega
      have I := hide hin
      have A := hide hat
      clear hin hat
      gi_wp2
      exact ⟨(KeepsOthers.setCell _ _ _).from _, fun j hj => Below.heap_setCell _ _ _ _ (Hin.out j hj).2.2, ⟨left, crashAt_low A.out hkn, I.out.count rfl⟩, hT.setNew _ _ (by simp)⟩
    · have hknI : ¬ (k : Int) < (D.lasts : Int) := by omega
      have A := hide hat
      have I := hide hin
      by_cases hsl : (D.lines[k].size : Int) + 1 ≤ left
      · have A2 := hide (crashAt_step hat (by omega) hk' hsl)
        obtain ⟨s, hs⟩ : ∃ s, D.lines[k] = s := ⟨_, rfl⟩
        rw [hs] at hsl hsz A2 ⊢
        clear hin hat hs
        have hsl' : ¬ left < (s.size : Int) + 1 := by omega
        gi_wp2_with fail
        refine regionIn_quiet_r (by kernel_rfl) (by kernel_rfl) (by kernel_rfl) ?_
        first | gi_big_quiet_step (fail) | quiet_step_in (fail)
        refine wpQuietIn_step (fun _ _ _ _ => trivial) (fun K hK => ?_)
        go_simp
        apply Exists.intro
        refine ⟨fun _ => CallsIn.quiet_of_same (CallsIn.inRound lp (callsIn_wide.2 (u2.out s _ (by omega)))), hK _ ?_⟩
        clear hK K
        first | gi_big_quiet_step (fail) | quiet_step_in (fail)
        first | gi_big_quiet_step (fail) | quiet_step_in (fail)
        first | gi_big_quiet_step (fail) | quiet_step_in (fail)
        refine wpQuietIn_nil ?_
        intro w' hw'
        obtain ⟨nq, rfl⟩ := hw'
        gi_wp2_with fail
        obtain ⟨W1, hW1⟩ : ∃ W1, W.drewN nq = W1 := ⟨_, rfl⟩
        have hh : W1.heap = W.heap := by rw [← hW1]; rfl
        have T1 : Touch (onDisk p g) w W1 := by rw [← hW1]; exact hT.drewN nq
        have I1 := I.out.same hh
        rw [hW1]
        clear c0 c1 c2 f1 f2 e2 I hW1 hT
        have c1 := I1.b1.cell
        have c2 := I1.b2.cell
        have f1 := I1.b1.frozen
        have f2 := I1.b2.frozen
        have I := hide I1
        have Hh := hide hh
        clear I1 hh
        refine regionIn_tail_r 4 #[true, true, true, true, false] (by kernel_rfl) (by kernel_rfl) (by kernel_rfl) ?_
        simp only [List.take_succ_cons, List.take_zero, List.drop_succ_cons, List.drop_zero]
        first | gi_big_quiet_step (fail) | quiet_step_in (fail)
        first | gi_big_quiet_step (fail) | quiet_step_in (fail)
        refine wpQuietIn_step (fun _ _ _ _ => trivial) (fun K hK => ?_)
        go_simp
        apply Exists.intro
        refine ⟨fun _ => CallsIn.quiet_of_same (CallsIn.inRound lp (callsIn_wide.2 (u2.out s _ (by omega)))), hK _ ?_⟩
        clear hK K
        first | gi_big_quiet_step (fail) | quiet_step_in (fail)
        refine wpQuietIn_nil ?_
        intro w' hw'
        obtain ⟨mq, rfl⟩ := hw'
        gi_wp2_with fail
        have J := (I.out.spend (W' := W1.drewN mq) (left' := left - ((s.size : Int) + 1)) rfl).count rfl
        refine ⟨?_, fun j hj => ?_, ⟨_, A2.out, J⟩, ((T1.drewN mq).setNew _ _ (by simp)).setNew _ _ (by simp)⟩
        · exact (((keepsOthers_same (W := W) (W' := W1.drewN mq) Hh.out).trans (KeepsOthers.setCell _ _ _)).trans (KeepsOthers.setCell _ _ _)).from _
        · exact (Below.heap_setCell _ _ _ _ (Hin.out j hj).2.2).trans ((Below.heap_setCell _ _ _ _ (Hin.out j hj).2.1).trans (by rw [show (W1.drewN mq).heap = W1.heap from rfl, Hh.out]))
      · have A2 := hide (crashAt_stop hat (by omega) hk' hsl)
        obtain ⟨s, hs⟩ : ∃ s, D.lines[k] = s := ⟨_, rfl⟩
        rw [hs] at hsl hsz ⊢
        clear hin hat hs
        have hsl' : left < (s.size : Int) + 1 := by omega
        gi_wp2_with fail
        refine regionIn_quiet_r (by kernel_rfl) (by kernel_rfl) (by kernel_rfl) ?_
        first | gi_big_quiet_step (fail) | quiet_step_in (fail)
        refine wpQuietIn_step (fun _ _ _ _ => trivial) (fun K hK => ?_)
        go_simp
        apply Exists.intro
        refine ⟨fun _ => CallsIn.quiet_of_same (CallsIn.inRound lp (callsIn_wide.2 (u2.out s _ (by omega)))), hK _ ?_⟩
        clear hK K
        first | gi_big_quiet_step (fail) | quiet_step_in (fail)
        first | gi_big_quiet_step (fail) | quiet_step_in (fail)
        first | gi_big_quiet_step (fail) | quiet_step_in (fail)
        refine wpQuietIn_nil ?_
        intro w' hw'
        obtain ⟨nq, rfl⟩ := hw'
        gi_wp2_with fail
        exact ⟨(keepsOthers_same (W := W) (W' := W.drewN nq) rfl).from _, ⟨rfl, A2.out, left, I.out.same rfl⟩, hT.drewN nq⟩
  case done =>
    rintro Dd W hD ⟨⟨left, hat, h⟩, hT⟩ hK
    rw [placed_length] at hat h
    have hwn := crashAt_end hat Hd.out.ok.lasts
    have c0 := h.b0.cell
    have c2 := h.b2.cell
    have Ds := hide (diskShorten_calls B p g D D.lines.length W h.d (Nat.le_refl _))
    clear x0 x1 x2 q0 hbox hrow i0 hin C
    go_wp2_with fail
    refine Ds.out.mono ?_
    rintro e w2 ⟨rfl, hd2, ht2⟩
    have K2 : w2.heap[Dd]? = some (.deferred (some [])) := (ht2.block Dd (ltAt hK) fun h => by
      have := Hd.out.on h
      omega).trans hK
    have T2 := hT.trans ht2
    clear c0 c2 Ds ht2 hT hK
    go_wp2_with fail
    refine ⟨by simp, .inl ⟨_, _, rfl, run_takeDeferred K2, ?_⟩⟩
    have hg := grownBy_putObj' w2 Dd (.deferred none)
    have hr : ∀ r, some Dd = some r → ∃ o : Obj, w2.heap[r]? = some o ∧ o.isCells = false := fun r e => by cases e; exact ⟨_, K2, rfl⟩
    refine ⟨_, results_none rfl _ _ _, rfl, ?_, ownFrom_touch (β := Unit) (show w.heap.size ≤ w.heap.size from Nat.le_refl _) () w2 _ _ T2 hg fun r e => ⟨by cases e; omega, hr r e⟩⟩
    unfold crashD
    rw [hwn]
    exact hd2.own hg hr
  case stop =>
    rintro Dd c k W hD hk ⟨⟨rfl, hwn, left, h⟩, hT⟩ hK
    have hk' : k < D.lines.length := by rw [placed_length] at hk; exact hk
    have c0 := h.b0.cell
    have c2 := h.b2.cell
    have Ds := hide (diskShorten_calls B p g D k W h.d (by omega))
    clear x0 x1 x2 q0 hbox hrow i0 hin C
    refine (wpIn_wide (n := 5)).2 ?_
    go_wp2_with fail
    refine Ds.out.mono ?_
    rintro e w2 ⟨rfl, hd2, ht2⟩
    have K2 : w2.heap[Dd]? = some (.deferred (some [])) := (ht2.block Dd (ltAt hK) fun h => by
      have := Hd.out.on h
      omega).trans hK
    have T2 := hT.trans ht2
    clear c0 c2 Ds ht2 hT hK
    go_wp2_with fail
    refine ⟨by simp, .inl ⟨_, _, rfl, run_takeDeferred K2, ?_⟩⟩
    have hg := grownBy_putObj' w2 Dd (.deferred none)
    have hr : ∀ r, some Dd = some r → ∃ o : Obj, w2.heap[r]? = some o ∧ o.isCells = false := fun r e => by cases e; exact ⟨_, K2, rfl⟩
    refine ⟨_, results_none rfl _ _ _, rfl, ?_, ownFrom_touch (β := Unit) (show w.heap.size ≤ w.heap.size from Nat.le_refl _) () w2 _ _ T2 hg fun r e => ⟨by cases e; omega, hr r e⟩⟩
    unfold crashD
    rw [hwn]
    exact hd2.own hg hr


/-- What Cut answers; what it makes of a disk. -/
def cutE (D : DiskD) (n : Int) : Int := if n < 0 ∨ (D.lines.length : Int) < n then 1 else if D.lasts < D.lines.length then 12 else 0
def cutD (D : DiskD) (n : Int) : DiskD := if cutE D n = 0 then ⟨D.room, D.lines.take n.toNat, n.toNat⟩ else D

set_option maxHeartbeats 2000000 in
theorem diskCut_calls (B p : Nat) (g : Option Nat) (D : DiskD) (n : Int) (w : World) (hd : IsDisk w B p g D) :
    Calls Tryz.prog 129 #[.pointer (some ⟨p, 0, none⟩), .int .i64 n] w fun e w' => e = .returned (.int .i64 (cutE D n)) ∧ IsDisk w' B p g (cutD D n) ∧ Touch (onDisk p g) w w' := by
  have hl := hd.len
  have hlast := hd.ok.lasts
  have u1 := hide (fun w h => diskLen_calls B p g D w h)
  have u2 := hide (fun w h => diskWaits_calls B p g D w h)
  have Hd := hide hd
  by_cases h0 : n < 0
  · have e0 : cutE D n = 1 := by unfold cutE; rw [if_pos (.inl h0)]
    have e1 : cutD D n = D := by unfold cutD; rw [e0, if_neg (by decide)]
    rw [e0, e1]
    clear e0 e1 hd
    go_enter Tryz.func129, Tryz.ntmps129
    go_wp2
    go_ret
    exact ⟨rfl, Hd.out, Touch.refl _ _⟩
  · by_cases h1 : (D.lines.length : Int) < n
    · have e0 : cutE D n = 1 := by unfold cutE; rw [if_pos (.inr h1)]
      have e1 : cutD D n = D := by unfold cutD; rw [e0, if_neg (by decide)]
      rw [e0, e1]
      clear e0 e1 hd
      go_enter Tryz.func129, Tryz.ntmps129
      go_wp2_with (go_at_call 128; refine (u1.out _ Hd.out).mono ?_; rintro e w' ⟨rfl, hw'⟩; subst hw')
      go_ret
      exact ⟨rfl, Hd.out, Touch.refl _ _⟩
    · by_cases h2 : D.lasts < D.lines.length
      · have e0 : cutE D n = 12 := by unfold cutE; rw [if_neg (by omega), if_pos h2]
        have e1 : cutD D n = D := by unfold cutD; rw [e0, if_neg (by decide)]
        have h2I : (D.lines.length : Int) - (D.lasts : Int) > 0 := by omega
        rw [e0, e1]
        clear e0 e1 hd
        go_enter Tryz.func129, Tryz.ntmps129
        go_wp2_with (first | (go_at_call 128; refine (u1.out _ Hd.out).mono ?_; rintro e w' ⟨rfl, hw'⟩; subst hw') | (go_at_call 67; refine (u2.out _ Hd.out).mono ?_; rintro e w' ⟨rfl, nq, hw'⟩; subst hw'))
        go_ret
        exact ⟨rfl, Hd.out.new (drewsB _ _), touch_new (drewsB _ _)⟩
      · have e0 : cutE D n = 0 := by unfold cutE; rw [if_neg (by omega), if_neg h2]
        have e1 : cutD D n = ⟨D.room, D.lines.take n.toNat, n.toNat⟩ := by unfold cutD; rw [e0, if_pos rfl]
        have h2I : ¬ (D.lines.length : Int) - (D.lasts : Int) > 0 := by omega
        rw [e0, e1]
        obtain ⟨m, rfl⟩ := Int.eq_ofNat_of_zero_le (show 0 ≤ n by omega)
        rw [Int.toNat_natCast]
        have u3 := hide (fun w h => diskShorten_calls B p g D m w h (by omega))
        clear e0 e1 hd
        go_enter Tryz.func129, Tryz.ntmps129
        go_wp2_with (first | (go_at_call 128; refine (u1.out _ Hd.out).mono ?_; rintro e w' ⟨rfl, hw'⟩; subst hw') | (go_at_call 67; refine (u2.out _ Hd.out).mono ?_; rintro e w' ⟨rfl, nq, hw'⟩; subst hw') | (go_at_call 98; refine (u3.out _ (Hd.out.new (drewsB _ _))).mono ?_; rintro e w2 ⟨rfl, hd2, ht2⟩))
        go_ret
        exact ⟨rfl, hd2, ht2.of_touch (drewsB _ _)⟩

end Go.Proofs.YtjbjjfndkpcciaaGreatDoor

/- The laws' Lines, SameLines over disks' lines. Own work; no statement. -/
set_option linter.unusedSimpArgs false
set_option linter.unusedVariables false
namespace Go.Proofs.YtjbjjfndkpcciaaGreatDoor
open Go.RowKit Go.Shelf

attribute [local go_sem] Oper.semAt_some

/-- 'x = append(x, y)' by way of x's box. -/
theorem boxApp {W w1 : World} {b n₀ : Nat} {T e : TypeId} {v v1 : Value} {n m : Nat} {xs ys : List Value} {o : Obj} (hbx : Boxed W b T v) (hrow : W.ownsRow n₀ e 1 v n xs) (hb : b < n₀) (hn : n₀ ≤ W.heap.size)
    (hown1 : w1.ownsRow n₀ e 1 v1 m ys) (hgrow : (W.alloc o).grownBy w1 v.ownBlock) :
    Boxed w1 b T v ∧ Boxed (w1.setCell ⟨b, 0, none⟩ v1) b T v1 ∧ (w1.setCell ⟨b, 0, none⟩ v1).ownsRow n₀ e 1 v1 m ys ∧ KeepsOthers W (w1.setCell ⟨b, 0, none⟩ v1) ∧
      (∀ k, k < W.heap.size → k ≠ b → v.ownBlock ≠ some k → (w1.setCell ⟨b, 0, none⟩ v1).heap[k]? = W.heap[k]?) ∧ (∀ B w, B ≤ b → Below B w W → Below B w (w1.setCell ⟨b, 0, none⟩ v1)) := by
  have hne : some b ≠ v.ownBlock := fun e' => by have := (hrow.lt b e'.symm).1; omega
  have hv1 : Boxed w1 b T v := (hbx.alloc o).kept hgrow hne
  refine ⟨hv1, hv1.set v1, ownsRow_of_heap hown1 (fun k hk => Below.heap_setCell _ _ _ _ (fun e' => by have := (hown1.lt k hk).1; have e2 : k = b := e'; omega)), ?_, ?_, ?_⟩
  · refine ((KeepsOthers.alloc W o).trans (KeepsOthers.of_grownBy hgrow fun j o' ej hj => ?_)).trans (KeepsOthers.setCell _ _ _)
    rcases (hrow.alloc o).2 with ⟨rfl, _⟩ | ⟨g, cap, cur, rfl, _, hgb, _⟩
    · simp [Value.ownBlock] at ej
    · obtain rfl : g = j := by simpa [Value.ownBlock] using ej
      rw [hgb] at hj; cases hj; rfl
  · exact fun k hk hkB hkr => app_other hgrow k hk (fun e' => hkr e'.symm) hkB
  · intro B w hB h
    have := hbx.lt
    exact ((h.alloc (by omega) o).grown hgrow (by simp; omega) (fun j ej => by have := (hrow.lt j ej).1; omega)).setCell (p := ⟨b, 0, none⟩) hB v1

/-- Within the loop of Lines. -/
structure InLines (W : World) (s most : Nat) (l : List ByteArray) (k : Nat) (v : Value) : Prop where
  m : Boxed W s 3 (.int .i64 (most : Int))
  r1 : Boxed W (s + 1) 127 (.slice none 0 0)
  r2 : Boxed W (s + 2) 4 (.bool false)
  o : Boxed W (s + 3) 127 v
  row : W.ownsRow (s + 4) 9 1 v k ((l.take k).map Value.string)

theorem InLines.own {X Y : World} {row : Option Nat} {s most : Nat} {l : List ByteArray} {k : Nat} {v : Value} (h : InLines X s most l k v) (hg : X.grownBy Y row) (hrow : ∀ r, row = some r → ∃ o : Obj, X.heap[r]? = some o ∧ o.isCells = false) : InLines Y s most l k v :=
  ⟨boxed_own' hg hrow h.m, boxed_own' hg hrow h.r1, boxed_own' hg hrow h.r2, boxed_own' hg hrow h.o, ownsRow_own' hg hrow h.row⟩


/-- In the world w the slice v reads as the texts l. -/
def IsStrs (w : World) (v : Value) (l : List ByteArray) : Prop :=
  ∃ a cap, v = .slice a l.length cap ∧ l.length ≤ cap ∧ ∀ t (_ : t < l.length), ∃ b o, a = some ⟨b, o, none⟩ ∧ w.cell? ⟨b, o + t, none⟩ = some (.string l[t])

theorem IsStrs.of_row {w : World} {B : Nat} {e : TypeId} {v : Value} {l : List ByteArray} (h : w.ownsRow B e 1 v l.length (l.map Value.string)) : IsStrs w v l := by
  obtain ⟨a, cap, rfl⟩ := ownsRow_slice h
  refine ⟨a, cap, rfl, ?_, fun t ht => let ⟨b, e, hc⟩ := strs_cell h t ht; ⟨b, 0, e, by rw [Nat.zero_add]; exact hc⟩⟩
  rcases h.2 with ⟨h0, h1⟩ | ⟨g', cap', cur, h0, _, _, h1, _⟩ <;> (simp only [Value.slice.injEq] at h0; omega)
theorem IsStrs.below {w w' : World} {v : Value} {l : List ByteArray} (h : IsStrs w v l) (hb : Below w.heap.size w w') : IsStrs w' v l := by
  obtain ⟨a, cap, rfl, hcap, h⟩ := h
  exact ⟨a, cap, rfl, hcap, fun t ht => let ⟨b, o, e, hc⟩ := h t ht; ⟨b, o, e, (hb.cell (p := ⟨b, o + t, none⟩) (World.block_lt_of_cell? w _ hc)).trans hc⟩⟩

theorem strNe {a b : ByteArray} (h : ¬ a = b) : (a.toList == b.toList) = false := by
  rw [beq_eq_false_iff_ne, Lib.toList_data, Lib.toList_data]
  intro e
  exact h (ByteArray.ext (Array.toList_inj.1 e))

theorem take_grow {l m : List ByteArray} {k : Nat} (h : l.take k = m.take k) (hl : k < l.length) (hm : k < m.length) (e : l[k] = m[k]) : l.take (k + 1) = m.take (k + 1) := by
  rw [List.take_add_one, List.take_add_one, h, List.getElem?_eq_getElem hl, List.getElem?_eq_getElem hm, e]


end Go.Proofs.YtjbjjfndkpcciaaGreatDoor
