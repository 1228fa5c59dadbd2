/- Own work: the parts HeldT, TKr, T2, T3, TK10 of the proof, laid together. -/
import Derived.Test.YtdkpbfigjdmfpaaPartTokenChain1
import Derived.OrdersHeld
import Derived.StillTail
import Derived.Deep.QuietTactic
import Derived.BigQuiet
import Derived.Lib.QuietBelow
import Derived.Test.YtdkpbfigjdmfpaaPartTokenChain7
import Derived.Test.YtdkpbfigjdmfpaaPartTokenChain8
/- A region that draws its order: its first m operations come in whatever order, most of them reading what none of them writes (S says what); the others come behind them all, one by one. Own work; no statement. -/
set_option linter.unusedSimpArgs false
set_option linter.unusedVariables false
namespace Go.Proofs.Ytdkpbfigjdmfpaa
open Go.RowKit

section
variable {P : Program} {ops : Array Oper} {Q : Exit → Act → World → Prop} {S : World → Prop} {m g : Nat}

/-- f operations more of the head, S behind each of them; then the tail. -/
def HeadT (P : Program) (ops : Array Oper) (Q : Exit → Act → World → Prop) (S : World → Prop) (m g : Nat) : Nat → Array Bool → Act → World → Prop
  | 0, d, a, w => (∀ j ∈ Region.ready .any ops d, m ≤ j) ∧ wpAny P .any ops Q g d a w
  | f + 1, d, a, w => Region.ready .any ops d ≠ [] ∧ ∀ i ∈ Region.ready .any ops d, wpOp P ops Q i (fun a' w' => S w' ∧ HeadT P ops Q S m g f (d.setIfInBounds i true) a' w') a w

theorem HeadT.any : ∀ (f : Nat) (d : Array Bool) (a : Act) (w : World), HeadT P ops Q S m g f d a w → wpAny P .any ops Q (f + g) d a w
  | 0, d, a, w, h => by rw [Nat.zero_add]; exact h.2
  | f + 1, d, a, w, h => by
    rw [Nat.add_right_comm]
    exact ⟨fun e => absurd e h.1, fun i hi => wpOp_mono (fun a' w' h' => HeadT.any f _ a' w' h'.2) (h.2 i hi)⟩

/-- Each operation from m on waits for each one ahead of m. -/
def waitsAll (ops : Array Oper) (m : Nat) : Bool := (List.range ops.size).all fun j => decide (j < m) || (List.range m).all fun i => Region.waitsFor .any ops j i

theorem waitsAll_spec (h : waitsAll ops m = true) {i j : Nat} (hi : i < m) (hj : m ≤ j) {d : Array Bool} (hd : d.getD i true = false) : j ∉ Region.ready .any ops d := by
  intro hr
  obtain ⟨hun, oj, hoj, hall⟩ := mem_ready.1 hr
  have hlt : j < ops.size := by
    rcases Nat.lt_or_ge j ops.size with h | h
    · exact h
    · rw [Array.getElem?_eq_none h] at hoj; cases hoj
  have h1 := List.all_eq_true.1 h j (List.mem_range.2 hlt)
  simp only [Bool.or_eq_true, decide_eq_true_eq, List.all_eq_true, List.mem_range] at h1
  rcases h1 with h1 | h1
  · omega
  · obtain ⟨oj', hoj', e, he, hb, hon⟩ := Region.waitsFor_spec (h1 i hi)
    rw [hoj] at hoj'
    cases hoj'
    have := hall e he hb
    rw [hon] at this
    rcases Nat.lt_or_ge i d.size with h' | h'
    · simp [h'] at hd this
      rw [hd] at this
      cases this
    · simp [Array.getElem?_eq_none h'] at this

theorem HeadT.first {i : Nat} {oi : Oper} {v : Value} (hi : ops[i]? = some oi) (him : i < m) (hwa : waitsAll ops m = true) (hsel : ∀ (j : Nat) (o : Oper) cs b, ops[j]? = some o → o.op ≠ .select cs b)
    (hQ : ∀ c a w, Q (.panic c) (a.put oi.dst v) w → Q (.panic c) a w) :
    ∀ (f : Nat) (d : Array Bool) (a : Act) (w : World),
      (∀ j oj, ops[j]? = some oj → j ≠ i → d.getD j true = false → (∀ e ∈ oj.after, Region.binds .any e = true → e.on ≠ i) → oi.apart ops oj = true) →
      i ∈ Region.ready .any ops d → YieldsIf P ops S oi v a → S w → HeadT P ops Q S m g f (d.setIfInBounds i true) (a.put oi.dst v) w → HeadT P ops Q S m g (f + 1) d a w := by
  intro f
  induction f with
  | zero =>
    intro d a w _ hr hy hS H
    refine ⟨fun h => (by rw [h] at hr; cases hr), fun j hj => ?_⟩
    by_cases hji : j = i
    · subst hji; exact hy.wpOp hi hS ⟨hS, H⟩
    · have h1 := H.1 j (ready_mono hj hji)
      exact absurd hj (waitsAll_spec hwa him h1 (mem_ready.1 hr).1)
  | succ f ih =>
    intro d a w hfree hr hy hS H
    refine ⟨fun h => (by rw [h] at hr; cases hr), fun j hj => ?_⟩
    by_cases hji : j = i
    · subst hji; exact hy.wpOp hi hS ⟨hS, H⟩
    · have h1 := H.2 j (ready_mono hj hji)
      obtain ⟨hjun, oj, hoj, hall⟩ := mem_ready.1 hj
      have hnot : ∀ e ∈ oj.after, Region.binds .any e = true → e.on ≠ i := fun e he hb heq => by
        have h1 := hall e he hb
        have h0 := (mem_ready.1 hr).1
        rw [heq] at h1
        rcases Nat.lt_or_ge i d.size with h' | h'
        · simp [h'] at h0 h1; rw [h0] at h1; cases h1
        · simp [Array.getElem?_eq_none h'] at h1
      have h2 := wpOp_putIf hoj (hfree j oj hoj hji hjun hnot) (fun cs b => hsel i oi cs b hi) (fun cs b => hsel j oj cs b hoj) hQ hy h1
      have hfree' : ∀ k ok, ops[k]? = some ok → k ≠ i → (d.setIfInBounds j true).getD k true = false →
          (∀ e ∈ ok.after, Region.binds .any e = true → e.on ≠ i) → oi.apart ops ok = true := fun k ok hk hki hun hno => by
        refine hfree k ok hk hki ?_ hno
        by_cases hjk : j = k
        · subst hjk; exact hjun
        · rw [getD_set_ne true hjk] at hun; exact hun
      refine wpOp_mono (fun a' w' h3 => ⟨h3.2.1, ih (d.setIfInBounds j true) a' w' hfree' (ready_mono hr (Ne.symm hji)) h3.1 h3.2.1 ?_⟩) h2
      rw [Array.setIfInBounds_comm _ _ hji]
      exact h3.2.2

/-- No panic. -/
def noPanic (Q : Exit → Act → World → Prop) : Exit → Act → World → Prop
  | .panic _, _, _ => False
  | e, a, w => Q e a w

theorem noPanic_imp (e : Exit) (a : Act) (w : World) (h : noPanic Q e a w) : Q e a w := by
  cases e <;> first | exact h | exact h.elim

/-- Number i reads: it is taken first. -/
theorem HeadT.take (i : Nat) {oi : Oper} (v : Value) {f : Nat} {d : Array Bool} {a : Act} {w : World} (hi : ops[i]? = some oi) (hb : (decide (i < m) && waitsAll ops m && Region.noSelect ops && Region.free .any ops d i && (Region.ready .any ops d).contains i) = true)
    (hy : YieldsIf P ops S oi v a) (hS : S w)
    (h : HeadT P ops (noPanic Q) S m g f (d.setIfInBounds i true) (a.put oi.dst v) w) : HeadT P ops (noPanic Q) S m g (f + 1) d a w := by
  simp only [Bool.and_eq_true, decide_eq_true_eq] at hb
  obtain ⟨⟨⟨⟨h1, h2⟩, h3⟩, h4⟩, h5⟩ := hb
  exact HeadT.first hi h1 h2 (Region.noSelect_spec h3) (fun _ _ _ h => h) f d a w (Region.free_spec hi h4) (by simpa using h5) hy hS h

/-- Number i alone may come up. -/
theorem HeadT.only (i : Nat) {f : Nat} {d : Array Bool} {a : Act} {w : World} (hr : Region.ready .any ops d = [i]) (h : wpOp P ops Q i (fun a' w' => S w' ∧ HeadT P ops Q S m g f (d.setIfInBounds i true) a' w') a w) : HeadT P ops Q S m g (f + 1) d a w :=
  ⟨by rw [hr]; simp, fun j hj => by rw [hr] at hj; obtain rfl : j = i := (by simpa using hj); exact h⟩

/-- The head is done. -/
theorem HeadT.tail {l : List Oper} {d : Array Bool} {a : Act} {w : World} (hl : (l.drop m).length = g) (hs : Region.seqB .any l.toArray g m d = true) (h : wpList P l.toArray Q (l.drop m) a w) : HeadT P l.toArray Q S m g 0 d a w := by
  refine ⟨seqB_ready hs, ?_⟩
  subst hl
  exact wpAny_of_seq (l.drop m) m d a w (fun j => by simp [List.getElem?_drop]) hs h

theorem region_headT {id : Nat} {a : Act} {w : World} {l : List Oper} (m : Nat) (S : World → Prop) (hm : P.follows .mixedOrders = true) (hle : m ≤ l.length) (h : HeadT P l.toArray (noPanic Q) S m (l.length - m) m (Array.replicate l.toArray.size false) a w.drew) : (Code.region id l.toArray true).wp P Q a w := by
  refine wp_mono (Q := noPanic Q) (wp_region_any hm ?_) noPanic_imp
  have := HeadT.any m _ a _ h
  rw [show m + (l.length - m) = l.toArray.size by simp; omega] at this
  exact this

/-- An operation that answers a value, as the one that comes up. -/
theorem wpOp_val {i : Nat} {o : Oper} {K : Act → World → Prop} {a : Act} {w w' : World} {v : Value} (hi : ops[i]? = some o) (hg : o.guard = none) (hrun : (execOp a.eval o).run P w = .ok (.value v) w') (hK : K (a.put o.dst v) w') : wpOp P ops Q i K a w := by
  unfold wpOp
  simp only [hi]
  rw [if_pos (by simp [Region.wanted, hg])]
  refine .inl ?_
  unfold Oper.wp
  rw [hrun]
  exact hK

/-- A call of a Go function, as the one that comes up. -/
theorem wpOp_call {i : Nat} {o : Oper} {K : Act → World → Prop} {a : Act} {w : World} (hi : ops[i]? = some o) (hg : o.guard = none) (f : FuncId) (args : Array Value) {R : Ending → World → Prop} (hrun : (execOp a.eval o).run P w = .ok (.enter f args) w) (hc : Calls P f args w R)
    (hR : ∀ e w', R e w' → ∃ v, e = .returned v ∧ K (a.put o.dst v) w') : wpOp P ops Q i K a w := by
  unfold wpOp
  simp only [hi]
  rw [if_pos (by simp [Region.wanted, hg])]
  refine .inl ?_
  unfold Oper.wp
  rw [hrun]
  simp only [Oper.upon]
  refine hc.mono fun e w' h => ?_
  obtain ⟨v, rfl, hk⟩ := hR e w' h
  exact hk
end

end Go.Proofs.Ytdkpbfigjdmfpaa

/- A region that draws its order, taken in stretches: in a stretch loads are taken first (S says what they read), it ends at one operation that alone may come up; then plain steps. Own work; no statement. -/
set_option linter.unusedSimpArgs false
set_option linter.unusedVariables false
namespace Go.Proofs.Ytdkpbfigjdmfpaa
open Go.RowKit

section
variable {P : Program} {ops : Array Oper} {Q : Exit → Act → World → Prop} {S : World → Prop} {e g : Nat}

/-- f operations more, S behind each of them; then number e alone may come up. -/
def HeadE (P : Program) (ops : Array Oper) (Q : Exit → Act → World → Prop) (S : World → Prop) (e g : Nat) : Nat → Array Bool → Act → World → Prop
  | 0, d, a, w => Region.ready .any ops d = [e] ∧ wpAny P .any ops Q g d a w
  | f + 1, d, a, w => Region.ready .any ops d ≠ [] ∧ ∀ i ∈ Region.ready .any ops d, wpOp P ops Q i (fun a' w' => S w' ∧ HeadE P ops Q S e g f (d.setIfInBounds i true) a' w') a w
theorem HeadE.any : ∀ (f : Nat) (d : Array Bool) (a : Act) (w : World), HeadE P ops Q S e g f d a w → wpAny P .any ops Q (f + g) d a w
  | 0, d, a, w, h => by rw [Nat.zero_add]; exact h.2
  | f + 1, d, a, w, h => by
    rw [Nat.add_right_comm]
    exact ⟨fun e => absurd e h.1, fun i hi => wpOp_mono (fun a' w' h' => HeadE.any f _ a' w' h'.2) (h.2 i hi)⟩
theorem waits_not {i j : Nat} (h : Region.waitsFor .any ops j i = true) {d : Array Bool} (hd : d.getD i true = false) : j ∉ Region.ready .any ops d := by
  intro hr
  obtain ⟨hun, oj, hoj, hall⟩ := mem_ready.1 hr
  obtain ⟨oj', hoj', e, he, hb, hon⟩ := Region.waitsFor_spec h
  rw [hoj] at hoj'
  cases hoj'
  have := hall e he hb
  rw [hon] at this
  rcases Nat.lt_or_ge i d.size with h' | h'
  · simp [h'] at hd this
    rw [hd] at this
    cases this
  · simp [Array.getElem?_eq_none h'] at this
theorem HeadE.first {i : Nat} {oi : Oper} {v : Value} (hi : ops[i]? = some oi) (hwe : Region.waitsFor .any ops e i = true) (hsel : ∀ (j : Nat) (o : Oper) cs b, ops[j]? = some o → o.op ≠ .select cs b)
    (hQ : ∀ c a w, Q (.panic c) (a.put oi.dst v) w → Q (.panic c) a w) :
    ∀ (f : Nat) (d : Array Bool) (a : Act) (w : World),
      (∀ j oj, ops[j]? = some oj → j ≠ i → d.getD j true = false → (∀ e ∈ oj.after, Region.binds .any e = true → e.on ≠ i) → oi.apart ops oj = true) →
      i ∈ Region.ready .any ops d → YieldsIf P ops S oi v a → S w → HeadE P ops Q S e g f (d.setIfInBounds i true) (a.put oi.dst v) w → HeadE P ops Q S e g (f + 1) d a w := by
  intro f
  induction f with
  | zero =>
    intro d a w _ hr hy hS H
    refine ⟨fun h => (by rw [h] at hr; cases hr), fun j hj => ?_⟩
    by_cases hji : j = i
    · subst hji; exact hy.wpOp hi hS ⟨hS, H⟩
    · have h1 := ready_mono hj hji
      rw [H.1] at h1
      obtain rfl : j = e := by simpa using h1
      exact absurd hj (waits_not hwe (mem_ready.1 hr).1)
  | succ f ih =>
    intro d a w hfree hr hy hS H
    refine ⟨fun h => (by rw [h] at hr; cases hr), fun j hj => ?_⟩
    by_cases hji : j = i
    · subst hji; exact hy.wpOp hi hS ⟨hS, H⟩
    · have h1 := H.2 j (ready_mono hj hji)
      obtain ⟨hjun, oj, hoj, hall⟩ := mem_ready.1 hj
      have hnot : ∀ e ∈ oj.after, Region.binds .any e = true → e.on ≠ i := fun e he hb heq => by
        have h1 := hall e he hb
        have h0 := (mem_ready.1 hr).1
        rw [heq] at h1
        rcases Nat.lt_or_ge i d.size with h' | h'
        · simp [h'] at h0 h1; rw [h0] at h1; cases h1
        · simp [Array.getElem?_eq_none h'] at h1
      have h2 := wpOp_putIf hoj (hfree j oj hoj hji hjun hnot) (fun cs b => hsel i oi cs b hi) (fun cs b => hsel j oj cs b hoj) hQ hy h1
      have hfree' : ∀ k ok, ops[k]? = some ok → k ≠ i → (d.setIfInBounds j true).getD k true = false →
          (∀ e ∈ ok.after, Region.binds .any e = true → e.on ≠ i) → oi.apart ops ok = true := fun k ok hk hki hun hno => by
        refine hfree k ok hk hki ?_ hno
        by_cases hjk : j = k
        · subst hjk; exact hjun
        · rw [getD_set_ne true hjk] at hun; exact hun
      refine wpOp_mono (fun a' w' h3 => ⟨h3.2.1, ih (d.setIfInBounds j true) a' w' hfree' (ready_mono hr (Ne.symm hji)) h3.1 h3.2.1 ?_⟩) h2
      rw [Array.setIfInBounds_comm _ _ hji]
      exact h3.2.2


/-- Number i reads: it is taken first. -/
theorem HeadE.take (i : Nat) {oi : Oper} (v : Value) {f : Nat} {d : Array Bool} {a : Act} {w : World} (hi : ops[i]? = some oi) (hb : (Region.waitsFor .any ops e i && Region.noSelect ops && Region.free .any ops d i && (Region.ready .any ops d).contains i) = true)
    (hy : YieldsIf P ops S oi v a) (hS : S w)
    (h : HeadE P ops (noPanic Q) S e g f (d.setIfInBounds i true) (a.put oi.dst v) w) : HeadE P ops (noPanic Q) S e g (f + 1) d a w := by
  simp only [Bool.and_eq_true] at hb
  obtain ⟨⟨⟨h2, h3⟩, h4⟩, h5⟩ := hb
  exact HeadE.first hi h2 (Region.noSelect_spec h3) (fun _ _ _ h => h) f d a w (Region.free_spec hi h4) (by simpa using h5) hy hS h
/-- Number i alone may come up. -/
theorem HeadE.only (i : Nat) {f : Nat} {d : Array Bool} {a : Act} {w : World} (hr : Region.ready .any ops d = [i]) (h : wpOp P ops Q i (fun a' w' => S w' ∧ HeadE P ops Q S e g f (d.setIfInBounds i true) a' w') a w) : HeadE P ops Q S e g (f + 1) d a w :=
  ⟨by rw [hr]; simp, fun j hj => by rw [hr] at hj; obtain rfl : j = i := (by simpa using hj); exact h⟩
/-- Whichever comes up. -/
theorem HeadE.all {rs : List Nat} {f : Nat} {d : Array Bool} {a : Act} {w : World} (hr : Region.ready .any ops d = rs) (hne : rs ≠ []) (h : ∀ i ∈ rs, wpOp P ops Q i (fun a' w' => S w' ∧ HeadE P ops Q S e g f (d.setIfInBounds i true) a' w') a w) : HeadE P ops Q S e g (f + 1) d a w :=
  ⟨by rw [hr]; exact hne, fun j hj => h j (hr ▸ hj)⟩
/-- The stretch is done. -/
theorem HeadE.fin {d : Array Bool} {a : Act} {w : World} (hr : Region.ready .any ops d = [e]) (h : wpAny P .any ops Q g d a w) : HeadE P ops Q S e g 0 d a w := ⟨hr, h⟩

theorem region_begin {id : Nat} {a : Act} {w : World} {l : List Oper} (g : Nat) (hm : P.follows .mixedOrders = true) (hg : l.toArray.size = g) (h : wpAny P .any l.toArray (noPanic Q) g (Array.replicate g false) a w.drew) : (Code.region id l.toArray true).wp P Q a w := by
  subst hg
  exact wp_mono (Q := noPanic Q) (wp_region_any hm h) noPanic_imp
/-- Begin with a stretch of f operations. -/
theorem stretchE (f e : Nat) (S : World → Prop) {g : Nat} {d : Array Bool} {a : Act} {w : World} (h : HeadE P ops Q S e g f d a w) : wpAny P .any ops Q (f + g) d a w := HeadE.any f d a w h
/-- An operation that yields in whatever world is taken first. -/
theorem takeA (i : Nat) {oi : Oper} (v : Value) {f : Nat} {d : Array Bool} {a : Act} {w : World} (hi : ops[i]? = some oi) (hb : (Region.noSelect ops && Region.free .any ops d i && (Region.ready .any ops d).contains i) = true)
    (hy : Yields P ops oi v a) (h : wpAny P .any ops (noPanic Q) f (d.setIfInBounds i true) (a.put oi.dst v) w) : wpAny P .any ops (noPanic Q) (f + 1) d a w := by
  simp only [Bool.and_eq_true] at hb
  exact wpAny_take hi hb.1.1 hb.1.2 hb.2 (fun _ _ _ h => h) hy h
/-- Number i alone may come up. -/
theorem onlyA (i : Nat) {f : Nat} {d : Array Bool} {a : Act} {w : World} (hr : Region.ready .any ops d = [i]) (h : wpOp P ops Q i (wpAny P .any ops Q f (d.setIfInBounds i true)) a w) : wpAny P .any ops Q (f + 1) d a w :=
  wpAny_all hr (by simp) fun j hj => by
    obtain rfl : j = i := by simpa using hj
    exact h
theorem endA {d : Array Bool} {a : Act} {w : World} (hr : Region.ready .any ops d = []) (h : Q .normal a w) : wpAny P .any ops (noPanic Q) 0 d a w := ⟨hr, h⟩
/-- What is left reads and draws. -/
theorem quietFrom {l : List Oper} (k : Nat) {g : Nat} {d : Array Bool} {a : Act} {w : World} (hg : (l.drop k).length = g) (hB : (Region.noSelect l.toArray && Region.lexFrom .any l.toArray g k d) = true)
    (h : wpQuiet P l.toArray (fun w' => ∃ n, w' = w.drewN n) (fun a' => ∀ w', (∃ n, w' = w.drewN n) → Q .normal a' w') (l.drop k) a) : wpAny P .any l.toArray Q g d a w := by
  subst hg
  simp only [Bool.and_eq_true] at hB
  refine wpAny_of_quiet (C := fun w' => ∃ n, w' = w.drewN n) (Q := fun a' => ∀ w', (∃ n, w' = w.drewN n) → Q .normal a' w') (fun _ w' hw' h => h w' hw') _ _ _ _ ⟨0, rfl⟩ ?_
  exact wpAnyQ_lex hB.1 (l.drop k) k d a (fun j => by simp [List.getElem?_drop]) hB.2 h
/-- From number k on, m times, just the next one may come up. -/
def chainB (ops : Array Oper) : Nat → Nat → Array Bool → Bool
  | _, 0, _ => true
  | k, m + 1, d => decide (Region.ready .any ops d = [k]) && chainB ops (k + 1) m (d.setIfInBounds k true)
def markAll : Nat → Nat → Array Bool → Array Bool
  | _, 0, d => d
  | k, m + 1, d => markAll (k + 1) m (d.setIfInBounds k true)
/-- A stretch of operations that come one by one and are quiet, in the text's order. -/
theorem wpAny_chain {C : World → Prop} : ∀ (l : List Oper) (k g : Nat) (d : Array Bool) (a : Act) (w : World), C w → (∀ j, j < l.length → ops[k + j]? = l[j]?) → chainB ops k l.length d = true →
    wpQuiet P ops C (fun a' => ∀ w', C w' → wpAny P .any ops Q g (markAll k l.length d) a' w') l a → wpAny P .any ops Q (l.length + g) d a w
  | [], k, g, d, a, w, hw, _, _, h => by
    rw [List.length_nil, Nat.zero_add]
    exact h w hw
  | o :: l, k, g, d, a, w, hw, hl, hc, h => by
    simp only [chainB, List.length_cons, Bool.and_eq_true, decide_eq_true_eq] at hc
    rw [List.length_cons, Nat.add_right_comm]
    have h0 : ops[k]? = some o := by simpa using hl 0 (by simp)
    refine wpAny_all hc.1 (by simp) fun j hj => ?_
    obtain rfl : j = k := by simpa using hj
    refine wpOp_of_qOp (C := C) (K := wpQuiet P ops C (fun a' => ∀ w', C w' → wpAny P .any ops Q g (markAll (j + 1) l.length (d.setIfInBounds j true)) a' w') l) hw (fun a' w' hw' hK => ?_) ?_
    · exact wpAny_chain l (j + 1) g _ a' w' hw' (fun i hi => by
        have := hl (i + 1) (by simp; omega)
        rw [List.getElem?_cons_succ] at this
        rw [← this]
        congr 1
        omega) hc.2 hK
    · unfold qOp
      simp only [h0]
      exact h
theorem chainTake {l : List Oper} (m g : Nat) {d : Array Bool} {a : Act} {w : World} (hm : m ≤ l.length) (hc : chainB l.toArray 0 m d = true)
    (h : wpQuiet P l.toArray (fun w' => ∃ n, w' = w.drewN n) (fun a' => ∀ w', (∃ n, w' = w.drewN n) → wpAny P .any l.toArray Q g (markAll 0 m d) a' w') (l.take m) a) : wpAny P .any l.toArray Q (m + g) d a w := by
  have hl : (l.take m).length = m := by rw [List.length_take]; omega
  have := wpAny_chain (P := P) (ops := l.toArray) (Q := Q) (C := fun w' => ∃ n, w' = w.drewN n) (l.take m) 0 g d a w ⟨0, rfl⟩ (fun j hj => by rw [Nat.zero_add, List.getElem?_toArray, List.getElem?_take_of_lt (by omega)]) (by rw [hl]; exact hc) (by rw [hl]; exact h)
  rwa [hl] at this
/-- What is left reads, or makes memory by its callees. -/
theorem quietFromB {l : List Oper} (k : Nat) {g : Nat} {d : Array Bool} {a : Act} {w : World} (hg : (l.drop k).length = g) (hB : (Region.noSelect l.toArray && Region.lexFrom .any l.toArray g k d) = true)
    (h : wpQuiet P l.toArray (fun w' => ∃ p : Regrown, w' = Go.Sort.grow (redrawn w p.d) p.os) (fun a' => ∀ w', (∃ p : Regrown, w' = Go.Sort.grow (redrawn w p.d) p.os) → Q .normal a' w') (l.drop k) a) : wpAny P .any l.toArray Q g d a w := by
  subst hg
  simp only [Bool.and_eq_true] at hB
  refine wpAny_of_quiet (C := fun w' => ∃ p : Regrown, w' = Go.Sort.grow (redrawn w p.d) p.os) (Q := fun a' => ∀ w', (∃ p : Regrown, w' = Go.Sort.grow (redrawn w p.d) p.os) → Q .normal a' w') (fun _ w' hw' h => h w' hw') _ _ _ _ (regrown_of_below (RowKit.Below.refl _ w)) ?_
  exact wpAnyQ_lex hB.1 (l.drop k) k d a (fun j => by simp [List.getElem?_drop]) hB.2 h
/-- An operation that answers nothing (a store). -/
theorem wpOp_skip {i : Nat} {o : Oper} {K : Act → World → Prop} {a : Act} {w w' : World} (hi : ops[i]? = some o) (hg : o.guard = none) (hrun : (execOp a.eval o).run P w = .ok .skip w') (hK : K (a.put o.dst undef) w') : wpOp P ops Q i K a w := by
  unfold wpOp
  simp only [hi]
  rw [if_pos (by simp [Region.wanted, hg])]
  refine .inl ?_
  unfold Oper.wp
  rw [hrun]
  exact hK
/-- The same for a guarded one. -/
theorem wpOp_valG {i : Nat} {o : Oper} {K : Act → World → Prop} {a : Act} {w w' : World} {v : Value} (hi : ops[i]? = some o) (hw : Region.wanted o (yielded ops a.tmps) = true) (hrun : (execOp a.eval o).run P w = .ok (.value v) w') (hK : K (a.put o.dst v) w') : wpOp P ops Q i K a w := by
  unfold wpOp
  simp only [hi]
  rw [if_pos hw]
  refine .inl ?_
  unfold Oper.wp
  rw [hrun]
  exact hK
theorem wpOp_callG {i : Nat} {o : Oper} {K : Act → World → Prop} {a : Act} {w : World} (hi : ops[i]? = some o) (hw : Region.wanted o (yielded ops a.tmps) = true) (f : FuncId) (args : Array Value) {R : Ending → World → Prop} (hrun : (execOp a.eval o).run P w = .ok (.enter f args) w) (hc : Calls P f args w R)
    (hR : ∀ e w', R e w' → ∃ v, e = .returned v ∧ K (a.put o.dst v) w') : wpOp P ops Q i K a w := by
  unfold wpOp
  simp only [hi]
  rw [if_pos hw]
  refine .inl ?_
  unfold Oper.wp
  rw [hrun]
  simp only [Oper.upon]
  refine hc.mono fun e w' h => ?_
  obtain ⟨v, rfl, hk⟩ := hR e w' h
  exact hk
end

end Go.Proofs.Ytdkpbfigjdmfpaa

/- A chain of records of another site, in any order; own drafts that wait or not: what is admitted. Own work; no statement. -/
set_option linter.unusedSimpArgs false
set_option linter.unusedVariables false
namespace Go.Proofs.Ytdkpbfigjdmfpaa
open Go.RowKit

/-! ### A chain -/

/-- The so-many-th record of site 1, as a draft. -/
def dC (s : Int) : DrD := ⟨0, ⟨1, s, [], ⟨#[107]⟩, ⟨#[]⟩⟩⟩
def nnT (s : List Int) : Prop := ∀ i : Nat, 0 ≤ geti s (i : Int)
theorem cov_nil {s : List Int} (h : nnT s) : everyB covB s [] = true := by
  rw [cov_geti]
  intro i
  rw [geti_nat]
  have := h i
  simpa using this

theorem adm_put_mem {own : Int} : ∀ (n : Nat) (s : List Int) (l : List DrD), (∀ d ∈ l, d.r.site ≠ own) → ∀ d ∈ (admT own n s l).2.2, d ∈ l
  | 0, s, l, _, d, hd => by cases hd
  | n + 1, s, l, h, d, hd => by
    unfold admT at hd
    cases hf : l.find? (mayD own s) with
    | none => rw [hf] at hd; cases hd
    | some x =>
      rw [hf] at hd
      obtain ⟨hx, hm, -⟩ := find_out hf
      rcases List.mem_cons.1 hd with e | hd
      · unfold putT at e
        rw [if_neg (h x hx)] at e
        exact e ▸ hx
      · exact outT_mem hf d (adm_put_mem n _ _ (fun y hy => h y (outT_mem hf y hy)) d hd)
/-- Of one site alone: one number behind the other. -/
theorem chain_one : ∀ (s : List Int) (l : List DrD) (c g : Int), 0 ≤ c → c ≤ 63 → geti s c = g → (∀ d ∈ l, d.r.site = c) → chainT s l →
    (∀ j (h : j < l.length), l[j].r.seq = g + 1 + (j : Int)) ∧ ∀ i, geti (endT s l) i = if i = c then g + (l.length : Int) else geti s i
  | s, [], c, g, _, _, hg, _, _ => ⟨fun j h => absurd h (by simp), fun i => by
    simp only [endT, List.length_nil]
    split
    · rename_i e
      rw [e, hg]
      simp
    · rfl⟩
  | s, d :: l, c, g, h0, h1, hg, hs, hc => by
    obtain ⟨⟨q1, -⟩, q2⟩ := hc
    have hd := hs d List.mem_cons_self
    rw [hd] at q1 q2
    have hw := fun j => withL_get (s := s) (i := c) (n := d.r.seq) h0 h1 j
    obtain ⟨r1, r2⟩ := chain_one (withL s c d.r.seq) l c (g + 1) h0 h1 (by rw [hw, if_pos rfl, q1, hg]) (fun x hx => hs x (List.mem_cons_of_mem _ hx)) q2
    refine ⟨fun j hj => ?_, fun i => ?_⟩
    · cases j with
      | zero => simp [q1, hg]
      | succ j =>
        have := r1 j (by simpa using hj)
        simp only [List.getElem_cons_succ]
        rw [this]
        omega
    · show geti (endT (withL s d.r.site d.r.seq) l) i = _
      rw [hd, r2 i]
      split
      · simp only [List.length_cons]
        omega
      · rename_i e
        rw [hw, if_neg e]

/-- Numbers up to k were handed over, those of G; nx is the next one. -/
structure ChainT (k nx : Int) (G : List Int) (t : TokD) : Prop where
  own : t.own = 0
  next : t.next = nx - 1
  seen : ∀ i : Nat, geti t.seen (i : Int) = if (i : Int) = 1 then nx - 1 else 0
  low : 1 ≤ nx
  high : nx ≤ k + 1
  nums : ∀ s ∈ G, 1 ≤ s ∧ s ≤ k
  late : ∀ d ∈ t.late, ∃ s ∈ G, d = dC s
  keeps : ∀ s ∈ G, s < nx ∨ dC s ∈ t.late
  left : LeftO t

theorem chainT_new (k : Int) (hk : 0 ≤ k) : ChainT k 1 [] ⟨0, 0, [], []⟩ :=
  ⟨rfl, rfl, fun i => by simp [geti_nat], by omega, by omega, fun _ h => (by cases h), fun _ h => (by cases h), fun _ h => (by cases h), ⟨fun _ h => (by cases h), fun _ h => (by cases h), List.Pairwise.nil⟩⟩
theorem chainT_step {k nx s : Int} {G : List Int} {t : TokD} (h : ChainT k nx G t) (h1 : 1 ≤ s) (h2 : s ≤ k) :
    ChainT k (nx + ((admitT t [dC s]).2.length : Int)) (s :: G) (admitT t [dC s]).1 ∧ (∀ j (hj : j < (admitT t [dC s]).2.length), (admitT t [dC s]).2[j].1 = nx - 1 + (j : Int) ∧ (admitT t [dC s]).2[j].2.r.seq = nx + (j : Int)) ∧
      (admitT t [dC s]).1.late.length + (admitT t [dC s]).2.length ≤ t.late.length + 1 := by
  have hall : ∀ d ∈ t.late ++ [dC s], ∃ q ∈ s :: G, d = dC q := fun d hd => by
    rcases List.mem_append.1 hd with hd | hd
    · obtain ⟨q, hq, e⟩ := h.late d hd
      exact ⟨q, List.mem_cons_of_mem _ hq, e⟩
    · exact ⟨s, List.mem_cons_self, List.mem_singleton.1 hd⟩
  have hnum : ∀ q ∈ s :: G, 1 ≤ q ∧ q ≤ k := fun q hq => by
    rcases List.mem_cons.1 hq with rfl | hq
    · exact ⟨h1, h2⟩
    · exact h.nums q hq
  have ho : othersT t.own (t.late ++ [dC s]) := fun d hd => by
    obtain ⟨q, -, rfl⟩ := hall d hd
    rw [h.own]
    exact ⟨show (1 : Int) ≠ 0 by decide, show (0 : Int) ≤ 1 by decide, show (1 : Int) ≤ 7 by decide⟩
  obtain ⟨A, L⟩ := admit_others t [dC s] ho
  obtain ⟨c1, c2⟩ := adm_chain (own := t.own) (t.late ++ [dC s]).length t.seen (t.late ++ [dC s])
  have hpm := adm_put_mem (own := t.own) (t.late ++ [dC s]).length t.seen (t.late ++ [dC s]) fun d hd => (ho d hd).1
  have hcnt := adm_count (own := t.own) (t.late ++ [dC s]).length t.seen (t.late ++ [dC s])
  have hlen : ∀ (own : Int) (s : List Int) (e l : List DrD), (lateT own s e l).length ≤ l.length := fun own s e l => by
    induction l generalizing e with
    | nil => exact Nat.le_refl _
    | cons x l ih =>
      unfold lateT
      split
      · exact Nat.le_trans (ih _) (by simp)
      · have := ih (e ++ [x])
        simp only [List.length_cons]
        omega
  have hs1 : geti t.seen 1 = nx - 1 := by have := h.seen 1; simpa using this
  obtain ⟨r1, r2⟩ := chain_one t.seen _ 1 (nx - 1) (by decide) (by decide) hs1 (fun d hd => by obtain ⟨q, -, rfl⟩ := hall d (hpm d hd); rfl) c1
  rw [c2] at r2
  have hout : (admitT t [dC s]).2 = slotsT t.next (admT t.own (t.late ++ [dC s]).length t.seen (t.late ++ [dC s])).2.2 := rfl
  have hseen : (admitT t [dC s]).1.seen = (admT t.own (t.late ++ [dC s]).length t.seen (t.late ++ [dC s])).1 := rfl
  have hlate : (admitT t [dC s]).1.late.length ≤ (admT t.own (t.late ++ [dC s]).length t.seen (t.late ++ [dC s])).2.1.length := hlen _ _ _ _
  have hol : (admitT t [dC s]).2.length = (admT t.own (t.late ++ [dC s]).length t.seen (t.late ++ [dC s])).2.2.length := by rw [hout, slotsT_length]
  rw [← hseen, ← hol] at r2
  have hseen2 : ∀ i : Nat, geti (admitT t [dC s]).1.seen (i : Int) = if (i : Int) = 1 then nx + ((admitT t [dC s]).2.length : Int) - 1 else 0 := fun i => by
    rw [r2 (i : Int)]
    split
    · omega
    · rename_i e
      rw [h.seen i, if_neg e]
  have hs2 : geti (admitT t [dC s]).1.seen 1 = nx + ((admitT t [dC s]).2.length : Int) - 1 := by have := hseen2 1; simpa using this
  have hhigh : nx + ((admitT t [dC s]).2.length : Int) ≤ k + 1 := by
    have hS : ∀ j : Nat, geti [0, k] (j : Int) = if (j : Int) = 1 then k else 0 := fun j => by
      rw [geti_nat]
      match j with
      | 0 => simp
      | 1 => simp
      | j + 2 => simp; omega
    have hS1 : geti [0, k] 1 = k := by have := hS 1; simpa using this
    have := A.least [0, k] (t.late ++ [dC s]) (fun d hd => by
      obtain ⟨q, hq, rfl⟩ := hall d hd
      have hqk := hnum q hq
      cases hm : mayD t.own [0, k] (dC q) with
      | false => rfl
      | true =>
        have h3 := ((may_other (d := dC q) (ho _ hd).1).1 hm).1
        have h4 : q = geti [0, k] 1 + 1 := h3
        rw [hS1] at h4
        omega) ho (fun _ h => h) (fun i => by
      rw [h.seen i, hS i]
      split
      · have := h.high; omega
      · exact Int.le_refl _) 1
    have h3 : geti (admitT t [dC s]).1.seen 1 ≤ geti [0, k] 1 := this
    rw [hS1, hs2] at h3
    omega
  refine ⟨⟨A.own.trans h.own, by rw [A.next, h.next]; omega, hseen2, by have := h.low; omega, hhigh, hnum, fun d hd => hall d (A.sub d hd), fun q hq => ?_, L⟩, fun j hj => ?_, ?_⟩
  · have hmem : dC q ∈ t.late ++ [dC s] ∨ q < nx := by
      rcases List.mem_cons.1 hq with rfl | hq
      · exact .inl (List.mem_append.2 (.inr (List.mem_singleton.2 rfl)))
      · rcases h.keeps q hq with h | h
        · exact .inr h
        · exact .inl (List.mem_append.2 (.inl h))
    rcases hmem with hmem | hmem
    · rcases A.keeps _ hmem with h3 | ⟨x, hx, hk⟩
      · have h4 : q ≤ geti (admitT t [dC s]).1.seen 1 := h3
        rw [hs2] at h4
        exact .inl (by omega)
      · obtain ⟨q2, -, rfl⟩ := hall x (A.sub x hx)
        have : q2 = q := hk.2
        exact .inr (this ▸ hx)
    · exact .inl (by omega)
  · have hj' : j < (slotsT t.next (admT t.own (t.late ++ [dC s]).length t.seen (t.late ++ [dC s])).2.2).length := hj
    have hg := slotsT_get t.next (admT t.own (t.late ++ [dC s]).length t.seen (t.late ++ [dC s])).2.2 j hj'
    have g1 : (admitT t [dC s]).2[j].1 = t.next + (j : Int) := congrArg Prod.fst hg
    have g2 : (admitT t [dC s]).2[j].2.r.seq = _ := congrArg (fun x => x.2.r.seq) hg
    refine ⟨g1.trans (by rw [h.next]), g2.trans ?_⟩
    dsimp only
    rw [r1 j (by rw [slotsT_length] at hj'; exact hj')]
    omega
  · have hl1 : (t.late ++ [dC s]).length = t.late.length + 1 := by rw [List.length_append]; rfl
    omega
theorem chainT_end {k nx : Int} {G : List Int} {t : TokD} (h : ChainT k nx G t) (hG : ∀ s, 1 ≤ s → s ≤ k → s ∈ G) : nx = k + 1 ∧ t.late = [] := by
  have hs1 : geti t.seen 1 = nx - 1 := by have := h.seen 1; simpa using this
  have hnn : nnT t.seen := fun i => by
    rw [h.seen i]
    have := h.low
    split <;> omega
  have hnx : nx = k + 1 := by
    have hh := h.high
    have hl := h.low
    by_cases hlt : nx ≤ k
    · rcases h.keeps nx (hG nx hl hlt) with h1 | h1
      · omega
      · have h2 := h.left.not _ h1
        have h3 : mayD t.own t.seen (dC nx) = true := (may_other (d := dC nx) (by rw [h.own]; exact show (1 : Int) ≠ 0 by decide)).2 ⟨by show nx = geti t.seen 1 + 1; omega, cov_nil hnn⟩
        rw [h2] at h3
        cases h3
    · omega
  refine ⟨hnx, ?_⟩
  cases hL : t.late with
  | nil => rfl
  | cons d l =>
    have hd : d ∈ t.late := by rw [hL]; exact List.mem_cons_self
    obtain ⟨s, hs, rfl⟩ := h.late d hd
    have h1 := (h.nums s hs).2
    have h2 := h.left.above _ hd
    have h3 : geti t.seen 1 < s := h2
    omega

/-! ### Own drafts -/

/-- Own drafts, numbered from behind g on. -/
def numT (g : Int) : List DrD → List DrD
  | [] => []
  | d :: l => ⟨d.ticket, { d.r with seq := g + 1 }⟩ :: numT (g + 1) l
theorem numT_length : ∀ (g : Int) (l : List DrD), (numT g l).length = l.length
  | _, [] => rfl
  | g, d :: l => by simp [numT, numT_length (g + 1) l]
theorem numT_get : ∀ (g : Int) (l : List DrD) (j : Nat) (h : j < l.length), (numT g l)[j]'(by rw [numT_length]; exact h) = ⟨l[j].ticket, { l[j].r with seq := g + 1 + (j : Int) }⟩
  | g, d :: l, 0, _ => by simp [numT]
  | g, d :: l, j + 1, h => by
    have := numT_get (g + 1) l j (by simpa using h)
    simp only [numT, List.getElem_cons_succ]
    rw [this, show g + 1 + 1 + (j : Int) = g + 1 + ((j + 1 : Nat) : Int) by omega]

theorem own_adm {own c : Int} {fr : DrD → Bool} (h0 : 0 < own) (h1 : own ≤ 63) : ∀ (n : Nat) (s : List Int) (l : List DrD), l.length ≤ n → nnT s → geti s 0 = c → geti s own + (l.length : Int) ≤ 1048576 →
    (∀ d ∈ l, d.r.site = own ∧ d.r.seq = 0) → (∀ s, nnT s → geti s 0 = c → ∀ d ∈ l, everyB covB s d.r.dep = fr d) →
    (admT own n s l).2.1 = l.filter (fun d => !fr d) ∧ (admT own n s l).2.2 = numT (geti s own) (l.filter fr) ∧ ∀ j, geti (admT own n s l).1 j = if j = own then geti s own + ((l.filter fr).length : Int) else geti s j
  | 0, s, l, hl, _, _, _, _, _ => by
    obtain rfl : l = [] := List.length_eq_zero_iff.1 (Nat.le_zero.1 hl)
    refine ⟨rfl, rfl, fun j => ?_⟩
    simp only [admT, List.filter_nil, List.length_nil]
    split
    · rename_i e
      rw [e]
      simp
    · rfl
  | n + 1, s, l, hl, hn, hc, hb, hw, hf => by
    have hmay : ∀ d ∈ l, mayD own s d = fr d := fun d hd => by
      have hpos : 0 < l.length := List.length_pos_of_mem hd
      obtain ⟨q1, q2⟩ := hw d hd
      unfold mayD
      rw [if_pos q1, hf s hn hc d hd, q2]
      have : geti s own < 1048576 := by omega
      simp [this]
    unfold admT
    cases hfd : l.find? (mayD own s) with
    | none =>
      have hno : ∀ d ∈ l, fr d = false := fun d hd => by
        have := List.find?_eq_none.1 hfd d hd
        rw [hmay d hd] at this
        simpa using this
      have e1 : l.filter fr = [] := List.filter_eq_nil_iff.2 fun d hd => by rw [hno d hd]; decide
      have e2 : l.filter (fun d => !fr d) = l := List.filter_eq_self.2 fun d hd => by rw [hno d hd]; rfl
      rw [e1, e2]
      refine ⟨rfl, rfl, fun j => ?_⟩
      simp only [List.length_nil]
      split
      · rename_i e
        rw [e]
        simp
      · rfl
    | some x =>
      obtain ⟨hx, hm, hlen, a, b, e, eo, ha⟩ := find_out hfd
      have hfx : fr x = true := by rw [← hmay x hx]; exact hm
      have hfa : ∀ d ∈ a, fr d = false := fun d hd => by rw [← hmay d (by rw [e]; exact List.mem_append.2 (.inl hd))]; exact ha d hd
      have hxs := (hw x hx).1
      have hg := fun j => seenT_get hm (by rw [hxs]; omega) (by rw [hxs]; exact h1) j
      rw [hxs] at hg
      have hsub := outT_mem hfd
      have ea : a.filter fr = [] := List.filter_eq_nil_iff.2 fun d hd => by rw [hfa d hd]; decide
      obtain ⟨r1, r2, r3⟩ := own_adm h0 h1 n (seenT own s x) (outT own s l) (by omega) (fun i => by
          rw [hg]
          have := hn i
          split
          · rename_i e'
            rw [e'] at this
            omega
          · exact this)
        (by rw [hg, if_neg (by omega)]; exact hc) (by rw [hg, if_pos rfl]; omega) (fun d hd => hw d (hsub d hd)) (fun s' q1 q2 d hd => hf s' q1 q2 d (hsub d hd))
      have el : l.filter fr = x :: (outT own s l).filter fr := by
        rw [eo]
        conv => lhs; rw [e]
        rw [List.filter_append, List.filter_append, ea, List.filter_cons_of_pos hfx]
        rfl
      have en : l.filter (fun d => !fr d) = (outT own s l).filter (fun d => !fr d) := by
        rw [eo]
        conv => lhs; rw [e]
        rw [List.filter_append, List.filter_append, List.filter_cons_of_neg (by simp [hfx])]
      have hgo : geti (seenT own s x) own = geti s own + 1 := by rw [hg, if_pos rfl]
      dsimp only
      rw [el, en]
      refine ⟨r1, ?_, fun j => ?_⟩
      · rw [r2, hgo]
        unfold putT
        rw [if_pos hxs]
        rfl
      · rw [r3 j, hgo]
        split
        · simp only [List.length_cons]
          omega
        · rename_i e'
          rw [hg, if_neg e']

end Go.Proofs.Ytdkpbfigjdmfpaa

/- What the laws of tokens ask of Admit, as plain data: what was put, one behind the other; own drafts of which some wait. Own work; no statement. -/
set_option linter.unusedSimpArgs false
set_option linter.unusedVariables false
namespace Go.Proofs.Ytdkpbfigjdmfpaa
open Go.RowKit

/-! ### What was put, one behind the other -/

theorem endT_snoc : ∀ (s : List Int) (l : List DrD) (d : DrD), endT s (l ++ [d]) = withL (endT s l) d.r.site d.r.seq
  | _, [], _ => rfl
  | s, x :: l, d => endT_snoc (withL s x.r.site x.r.seq) l d
theorem chainT_at : ∀ (s : List Int) (l : List DrD), chainT s l → ∀ i (h : i < l.length), l[i].r.seq = geti (endT s (l.take i)) l[i].r.site + 1 ∧ everyB covB (endT s (l.take i)) l[i].r.dep = true
  | s, d :: l, hc, 0, _ => hc.1
  | s, d :: l, hc, i + 1, h => chainT_at (withL s d.r.site d.r.seq) l hc.2 i (by simpa using h)
theorem endT_take (s : List Int) (l : List DrD) (i : Nat) (h : i < l.length) : endT s (l.take (i + 1)) = withL (endT s (l.take i)) l[i].r.site l[i].r.seq := by
  rw [← endT_snoc, List.take_add_one, List.getElem?_eq_getElem h]
  rfl
/-- Admit's answers: positions, numbers, what each hangs on; what is seen in the end; what is left may not come. -/
structure RightT (t : TokD) (m : List DrD) (a : List DrD) : Prop where
  slots : (admitT t m).2 = slotsT t.next a
  chain : chainT t.seen a
  seen : (admitT t m).1.seen = endT t.seen a
  next : (admitT t m).1.next = t.next + (a.length : Int)
  own : (admitT t m).1.own = t.own
  not : ∀ d ∈ (admitT t m).1.late, mayD t.own (admitT t m).1.seen d = false
theorem admit_right (t : TokD) (m : List DrD) : ∃ a, RightT t m a ∧ a.length ≤ t.late.length + m.length ∧ (admitT t m).1.late.length ≤ t.late.length + m.length := by
  obtain ⟨c1, c2⟩ := adm_chain (own := t.own) (t.late ++ m).length t.seen (t.late ++ m)
  have hend := adm_end (own := t.own) (t.late ++ m).length t.seen (t.late ++ m) (Nat.le_refl _)
  have hlm := late_mem (own := t.own) (admT t.own (t.late ++ m).length t.seen (t.late ++ m)).1 [] (admT t.own (t.late ++ m).length t.seen (t.late ++ m)).2.1
  have hcnt := adm_count (own := t.own) (t.late ++ m).length t.seen (t.late ++ m)
  have hlen : ∀ (own : Int) (s : List Int) (e l : List DrD), (lateT own s e l).length ≤ l.length := fun own s e l => by
    induction l generalizing e with
    | nil => exact Nat.le_refl _
    | cons x l ih =>
      unfold lateT
      split
      · exact Nat.le_trans (ih _) (by simp)
      · have := ih (e ++ [x])
        simp only [List.length_cons]
        omega
  have hl1 : (t.late ++ m).length = t.late.length + m.length := List.length_append
  have hll : (admitT t m).1.late.length ≤ (admT t.own (t.late ++ m).length t.seen (t.late ++ m)).2.1.length := hlen _ _ _ _
  exact ⟨_, ⟨rfl, c1, c2.symm, rfl, rfl, fun d hd => hend d (hlm d hd)⟩, by omega, by omega⟩

/-! ### Own drafts of which some wait -/

/-- The draft with that ticket: it waits, or not. -/
def dO (i : Int) (b : Bool) : DrD := ⟨i, ⟨2, 0, if b then [1] else [], ⟨#[107]⟩, ⟨#[]⟩⟩⟩
/-- All of them, from that ticket on. -/
def dlO : Int → List Bool → List DrD
  | _, [] => []
  | i, b :: l => dO i b :: dlO (i + 1) l
theorem dlO_length : ∀ (i : Int) (l : List Bool), (dlO i l).length = l.length
  | _, [] => rfl
  | i, b :: l => by simp [dlO, dlO_length (i + 1) l]
theorem dlO_get : ∀ (i : Int) (l : List Bool) (j : Nat) (h : j < l.length), (dlO i l)[j]'(by rw [dlO_length]; exact h) = dO (i + (j : Int)) l[j]
  | i, b :: l, 0, _ => by simp [dlO]
  | i, b :: l, j + 1, h => by
    have := dlO_get (i + 1) l j (by simpa using h)
    simp only [dlO, List.getElem_cons_succ]
    rw [this, show i + 1 + (j : Int) = i + ((j + 1 : Nat) : Int) by omega]
theorem dlO_snoc : ∀ (i : Int) (l : List Bool) (b : Bool), dlO i (l ++ [b]) = dlO i l ++ [dO (i + (l.length : Int)) b]
  | i, [], b => by simp [dlO]
  | i, c :: l, b => by
    simp only [List.cons_append, dlO, List.length_cons]
    rw [dlO_snoc (i + 1) l b, show i + 1 + (l.length : Int) = i + ((l.length + 1 : Nat) : Int) by omega]
theorem dlO_mem : ∀ (i : Int) (l : List Bool), ∀ d ∈ dlO i l, ∃ j b, d = dO j b
  | _, [], _, h => by cases h
  | i, b :: l, d, h => by
    rcases List.mem_cons.1 h with rfl | h
    · exact ⟨i, b, rfl⟩
    · exact dlO_mem (i + 1) l d h
/-- Does it hang on nothing? -/
def freeO (d : DrD) : Bool := d.r.dep.isEmpty
theorem freeO_dO (i : Int) (b : Bool) : freeO (dO i b) = !b := by cases b <;> rfl
theorem filter_dlO (i : Int) (l : List Bool) : ((dlO i l).filter freeO).length = l.countP (fun b => !b) ∧ ((dlO i l).filter fun d => !freeO d).length = l.countP (fun b => b) := by
  induction l generalizing i with
  | nil => exact ⟨rfl, rfl⟩
  | cons b l ih =>
    obtain ⟨h1, h2⟩ := ih (i + 1)
    cases b with
    | false =>
      simp only [dlO]
      rw [List.filter_cons_of_pos (by rw [freeO_dO]; rfl), List.filter_cons_of_neg (by rw [freeO_dO]; decide), List.length_cons, h1, h2]
      simp
    | true =>
      simp only [dlO]
      rw [List.filter_cons_of_neg (by rw [freeO_dO]; decide), List.filter_cons_of_pos (by rw [freeO_dO]; rfl), List.length_cons, h1, h2]
      simp
/-- The i-th, where it does not wait, stands behind those ahead of it that don't. -/
theorem filter_at (i : Int) (l : List Bool) (j : Nat) (h : j < l.length) (hb : l[j] = false) : ((dlO i l).filter freeO)[(l.take j).countP (fun b => !b)]? = some (dO (i + (j : Int)) false) := by
  have e : l = l.take j ++ l[j] :: l.drop (j + 1) := by
    conv => lhs; rw [← List.take_append_drop j l]
    rw [List.drop_eq_getElem_cons h]
  have ed : ∀ (i : Int) (a b : List Bool), dlO i (a ++ b) = dlO i a ++ dlO (i + (a.length : Int)) b := by
    intro i a b
    induction a generalizing i with
    | nil => simp [dlO]
    | cons x a ih =>
      simp only [List.cons_append, dlO, List.length_cons]
      rw [ih, show i + 1 + (a.length : Int) = i + ((a.length + 1 : Nat) : Int) by omega]
  have hlen : (l.take j).length = j := by simp; omega
  have h1 := (filter_dlO i (l.take j)).1
  have e2 : (dlO i l).filter freeO = (dlO i (l.take j)).filter freeO ++ dO (i + (j : Int)) false :: (dlO (i + (j : Int) + 1) (l.drop (j + 1))).filter freeO := by
    conv => lhs; rw [e]
    rw [ed, List.filter_append, hlen, hb]
    simp only [dlO]
    rw [List.filter_cons_of_pos (by rw [freeO_dO]; rfl)]
  rw [e2, List.getElem?_append_right (by omega), h1, Nat.sub_self]
  rfl

theorem cov_dO {s : List Int} (hn : nnT s) {i : Int} {b : Bool} : everyB covB s (dO i b).r.dep = (!b || decide (1 ≤ geti s 0)) := by
  cases b with
  | false => exact cov_nil hn
  | true =>
    have e : everyB covB s [1] = true ↔ 1 ≤ geti s 0 := by
      rw [cov_geti]
      constructor
      · intro h
        exact h 0
      · intro h k
        rw [geti_nat]
        match k with
        | 0 => exact h
        | k + 1 => exact hn (k + 1)
    show everyB covB s [1] = _
    cases hc : everyB covB s [1] with
    | true => simp [e.1 hc]
    | false =>
      have : ¬ 1 ≤ geti s 0 := fun h => by rw [e.2 h] at hc; cases hc
      simp [this]
theorem late_own {own : Int} (s : List Int) (l : List DrD) (h : ∀ d ∈ l, d.r.site = own ∧ d.r.seq = 0) : lateT own s [] l = l := by
  refine late_again s [] l (fun d hd => .inl (h d hd)) ?_
  refine List.Pairwise.imp_of_mem (R := fun _ _ => True) (fun {a b} _ hb _ hno => absurd (h b hb).1 hno) ?_
  exact List.pairwise_of_forall fun _ _ => trivial

/-- The law's token. -/
def tO : TokD := ⟨2, 7, [0, 0, 4], []⟩
theorem tO_seen (j : Int) : geti tO.seen j = if j = 2 then 4 else 0 := by
  unfold geti
  split
  · rename_i h
    rw [if_neg]
    have h2 : j < 0 ∨ 3 ≤ j := h
    omega
  · rename_i h
    have h2 : ¬ (j < 0 ∨ 3 ≤ j) := h
    obtain ⟨k, rfl⟩ := Int.eq_ofNat_of_zero_le (show 0 ≤ j by omega)
    match k with
    | 0 => rfl
    | 1 => rfl
    | 2 => rfl
    | k + 3 => omega
/-- First they are handed over: those that don't wait are put, in order; the others wait. -/
theorem own_first (l : List Bool) (hl : l.length ≤ 30) :
    (admitT tO (dlO 1 l)).2 = slotsT 7 (numT 4 ((dlO 1 l).filter freeO)) ∧ (admitT tO (dlO 1 l)).1.late = (dlO 1 l).filter (fun d => !freeO d) ∧
      (admitT tO (dlO 1 l)).1.own = 2 ∧ (admitT tO (dlO 1 l)).1.next = 7 + (((dlO 1 l).filter freeO).length : Int) ∧ ∀ j, geti (admitT tO (dlO 1 l)).1.seen j = if j = 2 then 4 + (((dlO 1 l).filter freeO).length : Int) else 0 := by
  have hn : nnT tO.seen := fun i => by rw [tO_seen]; split <;> omega
  have hw : ∀ d ∈ dlO 1 l, d.r.site = 2 ∧ d.r.seq = 0 := fun d hd => by
    obtain ⟨j, b, rfl⟩ := dlO_mem 1 l d hd
    exact ⟨rfl, rfl⟩
  obtain ⟨r1, r2, r3⟩ := own_adm (own := 2) (c := 0) (fr := freeO) (by decide) (by decide) (dlO 1 l).length tO.seen (dlO 1 l) (Nat.le_refl _) hn (by rw [tO_seen]; rfl) (by rw [tO_seen, dlO_length]; simp; omega) hw (fun s q1 q2 d hd => by
    obtain ⟨j, b, rfl⟩ := dlO_mem 1 l d hd
    rw [cov_dO q1, q2, freeO_dO]
    simp)
  have h4 : geti tO.seen 2 = 4 := by rw [tO_seen]; rfl
  rw [h4] at r2 r3
  have e0 : tO.late ++ dlO 1 l = dlO 1 l := rfl
  unfold admitT
  rw [e0]
  have eo : tO.own = 2 := rfl
  rw [eo]
  generalize admT 2 (dlO 1 l).length tO.seen (dlO 1 l) = R at *
  dsimp only
  rw [r1, r2]
  refine ⟨rfl, late_own _ _ fun d hd => hw d (List.mem_filter.1 hd).1, rfl, by rw [numT_length]; rfl, fun j => ?_⟩
  rw [r3 j]
  split
  · rfl
  · rename_i e
    rw [tO_seen, if_neg e]

/-- The record that they wait for. -/
def dF : DrD := ⟨0, ⟨0, 1, [], ⟨#[107]⟩, ⟨#[]⟩⟩⟩
/-- Then comes what they wait for: it is put first, then all of them. -/
theorem own_then (u : TokD) (l : List DrD) (n : Nat) (hl : l.length ≤ 30) (hn : n ≤ 30) (ho : u.own = 2) (hlt : u.late = l) (hs : ∀ j, geti u.seen j = if j = 2 then 4 + (n : Int) else 0) (hm : ∀ d ∈ l, ∃ j, d = dO j true) :
    (admitT u [dF]).2 = slotsT u.next (dF :: numT (4 + (n : Int)) l) ∧ (admitT u [dF]).1.late = [] ∧ everyB eqB (admitT u [dF]).1.seen [1, 0, 4 + (n : Int) + (l.length : Int)] = true := by
  subst hlt
  have hnn : nnT u.seen := fun i => by rw [hs]; split <;> omega
  have hno : ∀ d ∈ u.late, mayD u.own u.seen d = false := fun d hd => by
    obtain ⟨j, rfl⟩ := hm d hd
    unfold mayD
    rw [ho, if_pos (show (dO j true).r.site = 2 from rfl), cov_dO hnn, hs 0]
    simp
  have hF : mayD u.own u.seen dF = true := by
    refine (may_other (d := dF) (by rw [ho]; decide)).2 ⟨?_, cov_nil hnn⟩
    show (1 : Int) = geti u.seen 0 + 1
    rw [hs 0]
    rfl
  have hfind : (u.late ++ [dF]).find? (mayD u.own u.seen) = some dF := by
    rw [List.find?_append, List.find?_eq_none.2 fun d hd => by rw [hno d hd]; decide]
    simp [hF]
  obtain ⟨-, -, -, a, b, e, eo, ha⟩ := find_out hfind
  have hout : outT u.own u.seen (u.late ++ [dF]) = u.late := by
    have hi : (u.late ++ [dF]).findIdx (mayD u.own u.seen) = u.late.length := by
      rw [List.findIdx_append, List.findIdx_eq_length_of_false hno, if_neg (by omega)]
      simp [List.findIdx_cons, hF]
    unfold outT
    rw [hi, List.eraseIdx_append_of_length_le (Nat.le_refl _), Nat.sub_self]
    simp
  have hg := fun j => seenT_get hF (show (0 : Int) ≤ 0 by decide) (show (0 : Int) ≤ 63 by decide) j
  have hput : putT u.own u.seen dF = dF := by
    unfold putT
    rw [if_neg (by rw [ho]; decide)]
  have hg2 : ∀ j, geti (seenT u.own u.seen dF) j = if j = 0 then 1 else if j = 2 then 4 + (n : Int) else 0 := fun j => by
    rw [hg j]
    show (if j = 0 then geti u.seen 0 + 1 else geti u.seen j) = _
    split
    · rw [hs 0]
      rfl
    · rw [hs j]
  have hnn2 : nnT (seenT u.own u.seen dF) := fun i => by
    rw [hg2]
    split
    · decide
    · split <;> omega
  have hw : ∀ d ∈ u.late, d.r.site = 2 ∧ d.r.seq = 0 := fun d hd => by
    obtain ⟨j, rfl⟩ := hm d hd
    exact ⟨rfl, rfl⟩
  obtain ⟨r1, r2, r3⟩ := own_adm (own := 2) (c := 1) (fr := fun _ => true) (by decide) (by decide) u.late.length (seenT u.own u.seen dF) u.late (Nat.le_refl _) hnn2 (by rw [hg2]; rfl) (by rw [hg2]; simp; omega) hw (fun s q1 q2 d hd => by
    obtain ⟨j, rfl⟩ := hm d hd
    rw [cov_dO q1, q2]
    simp)
  have e1 : u.late.filter (fun _ => true) = u.late := List.filter_eq_self.2 fun _ _ => rfl
  have e2 : u.late.filter (fun _ => !true) = [] := List.filter_eq_nil_iff.2 fun _ _ => by decide
  have h4 : geti (seenT u.own u.seen dF) 2 = 4 + (n : Int) := by rw [hg2]; rfl
  rw [e1, h4] at r2 r3
  rw [e2] at r1
  have hstep : admT u.own (u.late ++ [dF]).length u.seen (u.late ++ [dF]) = ((admT u.own u.late.length (seenT u.own u.seen dF) u.late).1, (admT u.own u.late.length (seenT u.own u.seen dF) u.late).2.1, dF :: (admT u.own u.late.length (seenT u.own u.seen dF) u.late).2.2) := by
    rw [List.length_append]
    show admT u.own (u.late.length + 1) u.seen (u.late ++ [dF]) = _
    conv => lhs; unfold admT
    rw [hfind]
    dsimp only
    rw [hout, hput]
  unfold admitT
  rw [hstep]
  rw [ho] at *
  generalize admT 2 u.late.length (seenT 2 u.seen dF) u.late = R at *
  dsimp only
  rw [r1, r2]
  refine ⟨rfl, rfl, ?_⟩
  rw [same_iff]
  intro i
  have := r3 (i : Int)
  rw [geti_nat] at this
  rw [this]
  match i with
  | 0 =>
    rw [if_neg (by decide), hg2]
    rfl
  | 1 =>
    rw [if_neg (by decide), hg2]
    rfl
  | 2 => rfl
  | i + 3 =>
    rw [if_neg (by omega), hg2, if_neg (by omega), if_neg (by omega)]
    rfl

end Go.Proofs.Ytdkpbfigjdmfpaa

/- The laws' D; a token's bounds go on; one draft admitted. Own work; no statement. -/
set_option linter.unusedSimpArgs false
set_option linter.unusedVariables false
namespace Go.Proofs.Ytdkpbfigjdmfpaa
open Go.RowKit Go.Shelf Go.Sort

def dD (site seq : Int) (dep : List Int) : DrD := ⟨if seq = 0 then 1 else 0, ⟨site, seq, dep, ⟨#[107]⟩, ⟨#[]⟩⟩⟩

set_option maxHeartbeats 1000000 in
theorem lawD_calls (site seq : Int) (vd : Value) (dep : List Int) (w : World) (hd : IsNums .i64 w vd dep) :
    Calls Try.prog 26 #[.int .i64 site, .int .i64 seq, vd] w fun e w' => e = .returned (.agg #[.int .i64 (if seq = 0 then 1 else 0), .int .i64 site, .int .i64 seq, vd, .string ⟨#[107]⟩, .string ⟨#[]⟩]) ∧ w' = w.alloc (.cells #[.int .i64 (if seq = 0 then 1 else 0), .int .i64 site, .int .i64 seq, vd, .string ⟨#[107]⟩, .string ⟨#[]⟩] 41) := by
  obtain ⟨a, cap, rfl⟩ := hd.form
  have hB := box_below w (.cells #[.int .i64 0, .int .i64 0, .int .i64 0, .slice none 0 0, .string ⟨#[]⟩, .string ⟨#[]⟩] 41)
  have hN := World.alloc_heap_new w (.cells #[.int .i64 0, .int .i64 0, .int .i64 0, .slice none 0 0, .string ⟨#[]⟩, .string ⟨#[]⟩] 41)
  obtain ⟨d0, d1, d2, d3, d4, d5, g0, g1, g2, g3, g4, g5⟩ := cells6T hN
  obtain ⟨tk, htk⟩ : ∃ tk : Int, (if seq = 0 then 1 else 0) = tk := ⟨_, rfl⟩
  rw [htk]
  have HN := hide hN
  have HB := hide hB
  clear hd hN hB
  by_cases hs : seq = 0
  · rw [if_pos hs] at htk
    subst htk
    have hsb : (seq == 0) = true := by simpa using hs
    clear hs
    go_enter Try.func26, Try.ntmps26
    go_wp2_with fail
    obtain ⟨k0, k1, k2, k3, k4, k5, -⟩ := cells6T (World.alloc_heap_new w (.cells #[.int .i64 1, .int .i64 site, .int .i64 seq, .slice a dep.length cap, .string ⟨#[107]⟩, .string ⟨#[]⟩] 41))
    exact bodyPost_ret (v := .agg #[.int .i64 1, .int .i64 site, .int .i64 seq, .slice a dep.length cap, .string ⟨#[107]⟩, .string ⟨#[]⟩]) (by simp [results, Try.f26, go_sem, k0, k1, k2, k3, k4, k5]) rfl ⟨rfl, rfl⟩
  · rw [if_neg hs] at htk
    subst htk
    have hsb : (seq == 0) = false := by simpa using hs
    clear hs
    go_enter Try.func26, Try.ntmps26
    go_wp2_with fail
    obtain ⟨k0, k1, k2, k3, k4, k5, -⟩ := cells6T (World.alloc_heap_new w (.cells #[.int .i64 0, .int .i64 site, .int .i64 seq, .slice a dep.length cap, .string ⟨#[107]⟩, .string ⟨#[]⟩] 41))
    exact bodyPost_ret (v := .agg #[.int .i64 0, .int .i64 site, .int .i64 seq, .slice a dep.length cap, .string ⟨#[107]⟩, .string ⟨#[]⟩]) (by simp [results, Try.f26, go_sem, k0, k1, k2, k3, k4, k5]) rfl ⟨rfl, rfl⟩

/-- A token's bounds. -/
structure TokWf (t : TokD) (N : Nat) (C : Int) : Prop where
  seen : SeenOk t.seen
  late : ∀ d ∈ t.late, DrOk d
  len : t.late.length ≤ N
  next : 0 ≤ t.next ∧ t.next ≤ C
theorem adm_seenOk {own : Int} : ∀ (n : Nat) (s : List Int) (l : List DrD), SeenOk s → (∀ d ∈ l, DrOk d) → SeenOk (admT own n s l).1
  | 0, s, l, hs, _ => hs
  | n + 1, s, l, hs, hl => by
    unfold admT
    cases hf : l.find? (mayD own s) with
    | none => exact hs
    | some x =>
      obtain ⟨hx, hm, -⟩ := find_out hf
      exact adm_seenOk n _ _ (hs.put (hl x hx) hm) fun d hd => hl d (outT_mem hf d hd)
theorem late_len {own : Int} : ∀ (s : List Int) (e l : List DrD), (lateT own s e l).length ≤ l.length
  | _, _, [] => by simp [lateT]
  | s, e, d :: l => by
    have := late_len (own := own) s (e ++ [d]) l
    unfold lateT
    split <;> simp <;> omega
theorem TokWf.goesOn {t : TokD} {N : Nat} {C : Int} (h : TokWf t N C) (m : List DrD) (hm : ∀ d ∈ m, DrOk d) : TokWf (admitT t m).1 (N + m.length) (C + ((N + m.length : Nat) : Int)) := by
  have hall : ∀ d ∈ t.late ++ m, DrOk d := fun d hd => (List.mem_append.1 hd).elim (h.late d) (hm d)
  have hc := adm_count (own := t.own) (t.late ++ m).length t.seen (t.late ++ m)
  have hlen := h.len
  have hx := h.next
  rw [List.length_append] at hc
  unfold admitT
  dsimp only
  refine ⟨adm_seenOk _ _ _ h.seen hall, fun d hd => hall d (adm_left _ _ _ d (late_mem _ _ _ d hd)), ?_, ?_⟩
  · refine Nat.le_trans (late_len _ _ _) ?_
    rw [List.length_append]
    omega
  · dsimp only
    rw [List.length_append]
    omega

/-- At block b there lies a token, whose reading does not hang on that block. -/
def TokAt (w : World) (b : Nat) (t : TokD) : Prop :=
  ∃ sv lv, w.heap[b]? = some (.cells #[.int .i64 t.own, .int .i64 t.next, sv, lv] 26 (0, 0)) ∧ TokS (fun k => k ≠ b) w (.agg #[.int .i64 t.own, .int .i64 t.next, sv, lv]) t
theorem TokAt.lt {w : World} {b : Nat} {t : TokD} (h : TokAt w b t) : b < w.heap.size := by
  obtain ⟨sv, lv, h1, -⟩ := h
  exact ltB h1
theorem TokAt.new {w w' : World} {b : Nat} {t : TokD} (h : TokAt w b t) (hb : RowKit.Below w.heap.size w w') : TokAt w' b t := by
  obtain ⟨sv, lv, h1, h2⟩ := h
  exact ⟨sv, lv, keepB h1 hb, h2.new hb⟩
theorem TokAt.touch {w w' : World} {S : Nat → Prop} {b : Nat} {t : TokD} (h : TokAt w b t) (ht : Touch S w w') (hs : ∀ k, k < w.heap.size → ¬ S k) : TokAt w' b t :=
  h.new ⟨ht.os, ht.tape, ht.output, ht.size, fun k hk => ht.block k hk (hs k hk)⟩

theorem IsDrs.lit {w : World} {b : Nat} {c : Array Value} {e : TypeId} {f : Nat × Nat} {l : List Dv} (h : w.heap[b]? = some (.cells c e f)) (hc : c.toList = l.flatMap Dv.cells) (hn : ∀ q ∈ l, IsNums .i64 w q.vd q.d.r.dep) (h0 : 0 < l.length) : IsDrs w (.slice (some ⟨b, 0, none⟩) l.length l.length) (l.map (·.d)) := by
  refine ⟨some ⟨b, 0, none⟩, l.length, by rw [List.length_map], by rw [List.length_map]; exact Nat.le_refl _, (fun e => by cases e), fun t ht => ⟨b, 0, rfl, ?_⟩⟩
  rw [List.length_map] at ht
  rw [List.getElem_map, Nat.zero_add]
  refine drAt_of (fun j hj => ?_) (hn _ (List.getElem_mem ht))
  rw [cellsAt h, ← flat6 l t j ht hj, ← hc, Array.getElem?_toList]

end Go.Proofs.Ytdkpbfigjdmfpaa
