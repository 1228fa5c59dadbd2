/- A region that draws its order: its first m operations come in whatever order, most of them reading what none of them writes (S says what); the others come behind them all, one by one. Own work; no statement. -/
import Derived.Test.YtpkjkhpnhcbciaaBase
import Derived.OrdersHeld
import Derived.StillTail
set_option linter.unusedSimpArgs false
set_option linter.unusedVariables false
namespace Go.Proofs.Ytpkjkhpnhcbciaa
open Go.RowKit

section
variable {P : Program} {ops : Array Oper} {Q : Exit → Act → World → Prop} {S : World → Prop} {m g : Nat}

/-- f operations more of the head, S behind each of them; then the tail. -/
def HeadT (P : Program) (ops : Array Oper) (Q : Exit → Act → World → Prop) (S : World → Prop) (m g : Nat) : Nat → Array Bool → Act → World → Prop
  | 0, d, a, w => (∀ j ∈ Region.ready .any ops d, m ≤ j) ∧ wpAny P .any ops Q g d a w
  | f + 1, d, a, w => Region.ready .any ops d ≠ [] ∧ ∀ i ∈ Region.ready .any ops d, wpOp P ops Q i (fun a' w' => S w' ∧ HeadT P ops Q S m g f (d.setIfInBounds i true) a' w') a w

theorem HeadT.any : ∀ (f : Nat) (d : Array Bool) (a : Act) (w : World), HeadT P ops Q S m g f d a w → wpAny P .any ops Q (f + g) d a w
  | 0, d, a, w, h => by rw [Nat.zero_add]; exact h.2
  | f + 1, d, a, w, h => by
    rw [Nat.add_right_comm]
    exact ⟨fun e => absurd e h.1, fun i hi => wpOp_mono (fun a' w' h' => HeadT.any f _ a' w' h'.2) (h.2 i hi)⟩

/-- Each operation from m on waits for each one ahead of m. -/
def waitsAll (ops : Array Oper) (m : Nat) : Bool := (List.range ops.size).all fun j => decide (j < m) || (List.range m).all fun i => Region.waitsFor .any ops j i

theorem waitsAll_spec (h : waitsAll ops m = true) {i j : Nat} (hi : i < m) (hj : m ≤ j) {d : Array Bool} (hd : d.getD i true = false) : j ∉ Region.ready .any ops d := by
  intro hr
  obtain ⟨hun, oj, hoj, hall⟩ := mem_ready.1 hr
  have hlt : j < ops.size := by
    rcases Nat.lt_or_ge j ops.size with h | h
    · exact h
    · rw [Array.getElem?_eq_none h] at hoj; cases hoj
  have h1 := List.all_eq_true.1 h j (List.mem_range.2 hlt)
  simp only [Bool.or_eq_true, decide_eq_true_eq, List.all_eq_true, List.mem_range] at h1
  rcases h1 with h1 | h1
  · omega
  · obtain ⟨oj', hoj', e, he, hb, hon⟩ := Region.waitsFor_spec (h1 i hi)
    rw [hoj] at hoj'
    cases hoj'
    have := hall e he hb
    rw [hon] at this
    rcases Nat.lt_or_ge i d.size with h' | h'
    · simp [h'] at hd this
      rw [hd] at this
      cases this
    · simp [Array.getElem?_eq_none h'] at this

theorem HeadT.first {i : Nat} {oi : Oper} {v : Value} (hi : ops[i]? = some oi) (him : i < m) (hwa : waitsAll ops m = true) (hsel : ∀ (j : Nat) (o : Oper) cs b, ops[j]? = some o → o.op ≠ .select cs b)
    (hQ : ∀ c a w, Q (.panic c) (a.put oi.dst v) w → Q (.panic c) a w) :
    ∀ (f : Nat) (d : Array Bool) (a : Act) (w : World),
      (∀ j oj, ops[j]? = some oj → j ≠ i → d.getD j true = false → (∀ e ∈ oj.after, Region.binds .any e = true → e.on ≠ i) → oi.apart ops oj = true) →
      i ∈ Region.ready .any ops d → YieldsIf P ops S oi v a → S w → HeadT P ops Q S m g f (d.setIfInBounds i true) (a.put oi.dst v) w → HeadT P ops Q S m g (f + 1) d a w := by
  intro f
  induction f with
  | zero =>
    intro d a w _ hr hy hS H
    refine ⟨fun h => (by rw [h] at hr; cases hr), fun j hj => ?_⟩
    by_cases hji : j = i
    · subst hji; exact hy.wpOp hi hS ⟨hS, H⟩
    · have h1 := H.1 j (ready_mono hj hji)
      exact absurd hj (waitsAll_spec hwa him h1 (mem_ready.1 hr).1)
  | succ f ih =>
    intro d a w hfree hr hy hS H
    refine ⟨fun h => (by rw [h] at hr; cases hr), fun j hj => ?_⟩
    by_cases hji : j = i
    · subst hji; exact hy.wpOp hi hS ⟨hS, H⟩
    · have h1 := H.2 j (ready_mono hj hji)
      obtain ⟨hjun, oj, hoj, hall⟩ := mem_ready.1 hj
      have hnot : ∀ e ∈ oj.after, Region.binds .any e = true → e.on ≠ i := fun e he hb heq => by
        have h1 := hall e he hb
        have h0 := (mem_ready.1 hr).1
        rw [heq] at h1
        rcases Nat.lt_or_ge i d.size with h' | h'
        · simp [h'] at h0 h1; rw [h0] at h1; cases h1
        · simp [Array.getElem?_eq_none h'] at h1
      have h2 := wpOp_putIf hoj (hfree j oj hoj hji hjun hnot) (fun cs b => hsel i oi cs b hi) (fun cs b => hsel j oj cs b hoj) hQ hy h1
      have hfree' : ∀ k ok, ops[k]? = some ok → k ≠ i → (d.setIfInBounds j true).getD k true = false →
          (∀ e ∈ ok.after, Region.binds .any e = true → e.on ≠ i) → oi.apart ops ok = true := fun k ok hk hki hun hno => by
        refine hfree k ok hk hki ?_ hno
        by_cases hjk : j = k
        · subst hjk; exact hjun
        · rw [getD_set_ne true hjk] at hun; exact hun
      refine wpOp_mono (fun a' w' h3 => ⟨h3.2.1, ih (d.setIfInBounds j true) a' w' hfree' (ready_mono hr (Ne.symm hji)) h3.1 h3.2.1 ?_⟩) h2
      rw [Array.setIfInBounds_comm _ _ hji]
      exact h3.2.2

/-- No panic. -/
def noPanic (Q : Exit → Act → World → Prop) : Exit → Act → World → Prop
  | .panic _, _, _ => False
  | e, a, w => Q e a w

theorem noPanic_imp (e : Exit) (a : Act) (w : World) (h : noPanic Q e a w) : Q e a w := by
  cases e <;> first | exact h | exact h.elim

/-- Number i reads: it is taken first. -/
theorem HeadT.take (i : Nat) {oi : Oper} (v : Value) {f : Nat} {d : Array Bool} {a : Act} {w : World} (hi : ops[i]? = some oi) (hb : (decide (i < m) && waitsAll ops m && Region.noSelect ops && Region.free .any ops d i && (Region.ready .any ops d).contains i) = true)
    (hy : YieldsIf P ops S oi v a) (hS : S w)
    (h : HeadT P ops (noPanic Q) S m g f (d.setIfInBounds i true) (a.put oi.dst v) w) : HeadT P ops (noPanic Q) S m g (f + 1) d a w := by
  simp only [Bool.and_eq_true, decide_eq_true_eq] at hb
  obtain ⟨⟨⟨⟨h1, h2⟩, h3⟩, h4⟩, h5⟩ := hb
  exact HeadT.first hi h1 h2 (Region.noSelect_spec h3) (fun _ _ _ h => h) f d a w (Region.free_spec hi h4) (by simpa using h5) hy hS h

/-- Number i alone may come up. -/
theorem HeadT.only (i : Nat) {f : Nat} {d : Array Bool} {a : Act} {w : World} (hr : Region.ready .any ops d = [i]) (h : wpOp P ops Q i (fun a' w' => S w' ∧ HeadT P ops Q S m g f (d.setIfInBounds i true) a' w') a w) : HeadT P ops Q S m g (f + 1) d a w :=
  ⟨by rw [hr]; simp, fun j hj => by rw [hr] at hj; obtain rfl : j = i := (by simpa using hj); exact h⟩

/-- The head is done. -/
theorem HeadT.tail {l : List Oper} {d : Array Bool} {a : Act} {w : World} (hl : (l.drop m).length = g) (hs : Region.seqB .any l.toArray g m d = true) (h : wpList P l.toArray Q (l.drop m) a w) : HeadT P l.toArray Q S m g 0 d a w := by
  refine ⟨seqB_ready hs, ?_⟩
  subst hl
  exact wpAny_of_seq (l.drop m) m d a w (fun j => by simp [List.getElem?_drop]) hs h

theorem region_headT {id : Nat} {a : Act} {w : World} {l : List Oper} (m : Nat) (S : World → Prop) (hm : P.follows .mixedOrders = true) (hle : m ≤ l.length) (h : HeadT P l.toArray (noPanic Q) S m (l.length - m) m (Array.replicate l.toArray.size false) a w.drew) : (Code.region id l.toArray true).wp P Q a w := by
  refine wp_mono (Q := noPanic Q) (wp_region_any hm ?_) noPanic_imp
  have := HeadT.any m _ a _ h
  rw [show m + (l.length - m) = l.toArray.size by simp; omega] at this
  exact this

/-- An operation that answers a value, as the one that comes up. -/
theorem wpOp_val {i : Nat} {o : Oper} {K : Act → World → Prop} {a : Act} {w w' : World} {v : Value} (hi : ops[i]? = some o) (hg : o.guard = none) (hrun : (execOp a.eval o).run P w = .ok (.value v) w') (hK : K (a.put o.dst v) w') : wpOp P ops Q i K a w := by
  unfold wpOp
  simp only [hi]
  rw [if_pos (by simp [Region.wanted, hg])]
  refine .inl ?_
  unfold Oper.wp
  rw [hrun]
  exact hK

/-- A call of a Go function, as the one that comes up. -/
theorem wpOp_call {i : Nat} {o : Oper} {K : Act → World → Prop} {a : Act} {w : World} (hi : ops[i]? = some o) (hg : o.guard = none) (f : FuncId) (args : Array Value) {R : Ending → World → Prop} (hrun : (execOp a.eval o).run P w = .ok (.enter f args) w) (hc : Calls P f args w R)
    (hR : ∀ e w', R e w' → ∃ v, e = .returned v ∧ K (a.put o.dst v) w') : wpOp P ops Q i K a w := by
  unfold wpOp
  simp only [hi]
  rw [if_pos (by simp [Region.wanted, hg])]
  refine .inl ?_
  unfold Oper.wp
  rw [hrun]
  simp only [Oper.upon]
  refine hc.mono fun e w' h => ?_
  obtain ⟨v, rfl, hk⟩ := hR e w' h
  exact hk
end

end Go.Proofs.Ytpkjkhpnhcbciaa
