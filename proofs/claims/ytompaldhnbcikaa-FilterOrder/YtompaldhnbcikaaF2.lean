/- Filters, as plain data, and in memory. Own work; no statement. -/
import Derived.Test.YtompaldhnbcikaaF1
import Derived.Test.YtompaldhnbcikaaR6
set_option linter.unusedSimpArgs false
set_option linter.unusedVariables false
namespace Go.Proofs.Ytompaldhnbcikaa
open Go.RowKit Go.Shelf

/-- What a filter has: its records as they came. -/
structure FilD where
  site : Int
  room : Int
  next : Int
  L : List RecD

structure FilD.ok (F : FilD) : Prop where
  site0 : 0 ≤ F.site
  site1 : F.site ≤ 7
  room0 : 1 ≤ F.room
  room1 : F.room ≤ 64
  next0 : 1 ≤ F.next
  next1 : F.next ≤ 1048577
  each : ∀ r ∈ F.L, checkR r 8 = 0 ∧ r.site = F.site ∧ F.next ≤ r.seq ∧ r.seq < F.next + F.room
  apart : F.L.Pairwise fun a b => a.seq ≠ b.seq

/-- What checkR says of a record that may be. -/
theorem good_of {r : RecD} (h : checkR r 8 = 0) : 0 ≤ r.site ∧ r.site ≤ 7 ∧ 1 ≤ r.seq ∧ r.seq ≤ 1048576 ∧ r.dep.length ≤ 8 := by
  unfold checkR at h
  split at h
  · cases h
  · split at h
    · rename_i h1 h2
      refine ⟨by omega, by omega, by omega, by omega, ?_⟩
      unfold checkL at h2
      split at h2
      · cases h2
      · split at h2
        · cases h2
        · rename_i h3
          omega
    · rename_i h1 h2
      exact absurd h h2

/-- The two blocks of a filter. -/
def onFil (p b k : Nat) : Prop := k = p ∨ k = b

/-- At block p there lies a filter, what it holds at block b. -/
structure IsFil (w : World) (p b : Nat) (F : FilD) : Prop where
  ok : F.ok
  head : w.heap[p]? = some (.cells #[.int .i64 F.site, .int .i64 F.room, .int .i64 F.next, .map (some b)] 69 (0, 0))
  held : ∃ M : List (RecD × Value), M.map (·.1) = F.L ∧ MapAt w b (M.map fun x => (x.1.seq, x.2)) ∧ ∀ x ∈ M, OwnRec 0 w x.2 x.1

theorem OwnRec.keep {B : Nat} {w w' : World} {v : Value} {r : RecD} (h : OwnRec B w v r) (hk : ∀ (k : Nat) (c : Array Value), w.heap[k]? = some (.cells c 3 (0, 0)) → w'.heap[k]? = w.heap[k]?) : OwnRec B w' v r := by
  obtain ⟨vd, rfl, hr⟩ := h
  refine ⟨vd, rfl, ownsRow_of_heap hr fun k e => ?_⟩
  rcases hr.2 with ⟨rfl, _⟩ | ⟨g, cap, cur, rfl, _, hg, _⟩
  · cases e
  · obtain rfl : g = k := by simpa [Value.ownBlock] using e
    exact hk g _ hg
theorem OwnRec.low {B B' : Nat} {w : World} {v : Value} {r : RecD} (h : OwnRec B w v r) (hB : B' ≤ B) : OwnRec B' w v r := by
  obtain ⟨vd, rfl, hr⟩ := h
  exact ⟨vd, rfl, ownsRow_low hr hB⟩
theorem IsFil.lt {w : World} {p b : Nat} {F : FilD} (h : IsFil w p b F) : p < w.heap.size := ltAt h.head
theorem IsFil.ltb {w : World} {p b : Nat} {F : FilD} (h : IsFil w p b F) : b < w.heap.size := by
  obtain ⟨M, -, h2, -⟩ := h.held
  exact h2.lt
theorem IsFil.ne {w : World} {p b : Nat} {F : FilD} (h : IsFil w p b F) : p ≠ b := fun e => by
  obtain ⟨M, -, h2, -⟩ := h.held
  rw [← e] at h2
  exact h2.not_cells h.head
theorem IsFil.keep' {w w' : World} {p b : Nat} {F : FilD} (h : IsFil w p b F) (hp : w'.heap[p]? = w.heap[p]?) (hb : w'.heap[b]? = w.heap[b]?) (hk : ∀ (k : Nat) (c : Array Value), w.heap[k]? = some (.cells c 3 (0, 0)) → w'.heap[k]? = w.heap[k]?) : IsFil w' p b F := by
  obtain ⟨M, h1, h2, h3⟩ := h.held
  exact ⟨h.ok, hp.trans h.head, M, h1, h2.keep hb, fun x hx => (h3 x hx).keep hk⟩
theorem IsFil.keep {w w' : World} {p b : Nat} {F : FilD} (h : IsFil w p b F) (hb : Below w.heap.size w w') : IsFil w' p b F :=
  h.keep' (hb.block p h.lt) (hb.block b h.ltb) fun k c e => hb.block k (ltAt e)
/-- Another filter's doings change nothing of it. -/
theorem IsFil.touch {w w' : World} {p b p' b' : Nat} {F G : FilD} (h : IsFil w p b F) (h' : IsFil w p' b' G) (t : Touch (onFil p' b') w w') (h1 : p ≠ p') (h2 : b ≠ b') : IsFil w' p b F := by
  obtain ⟨M, -, hm, -⟩ := h.held
  obtain ⟨M', -, hm', -⟩ := h'.held
  refine h.keep' (t.block p h.lt ?_) (t.block b h.ltb ?_) fun k c e => t.block k (ltAt e) ?_
  · rintro (e | e)
    · exact h1 e
    · exact hm'.not_cells (e ▸ h.head)
  · rintro (e | e)
    · exact hm.not_cells (e ▸ h'.head)
    · exact h2 e
  · rintro (rfl | rfl)
    · rw [h'.head] at e
      simp only [Option.some.injEq, Obj.cells.injEq] at e
      exact absurd e.2.1 (by decide)
    · exact hm'.not_cells e

/-- The record whose number is next. -/
def firstF (F : FilD) : Option RecD := F.L.find? fun r => decide (r.seq = F.next)
/-- One taken. -/
def takeF (F : FilD) : FilD := ⟨F.site, F.room, F.next + 1, F.L.filter fun r => decide (r.seq ≠ F.next)⟩
/-- So many taken. -/
def takesF : Nat → FilD → FilD
  | 0, F => F
  | n + 1, F => takesF n (takeF F)
/-- What may go on. -/
def readyF : Nat → FilD → List RecD
  | 0, _ => []
  | n + 1, F => match firstF F with
    | none => []
    | some r => r :: readyF n (takeF F)
def readyL (F : FilD) : List RecD := readyF F.L.length F

theorem firstF_some {F : FilD} {r : RecD} (h : firstF F = some r) : r ∈ F.L ∧ r.seq = F.next :=
  ⟨List.mem_of_find?_eq_some h, by have := List.find?_some h; simpa using this⟩
theorem firstF_none {F : FilD} (h : firstF F = none) : ∀ r ∈ F.L, r.seq ≠ F.next := by
  intro r hr
  have := List.find?_eq_none.1 h r hr
  simpa using this
theorem firstF_mem {F : FilD} (hok : F.ok) {r : RecD} (hr : r ∈ F.L) (h : r.seq = F.next) : firstF F = some r := by
  cases hf : firstF F with
  | none => exact absurd h (firstF_none hf r hr)
  | some x =>
    obtain ⟨hx, hxs⟩ := firstF_some hf
    obtain ⟨i, hi, rfl⟩ := List.getElem_of_mem hr
    obtain ⟨j, hj, rfl⟩ := List.getElem_of_mem hx
    have hp := List.pairwise_iff_getElem.1 hok.apart
    rcases Nat.lt_trichotomy i j with h1 | h1 | h1
    · exact absurd (h.trans hxs.symm) (hp i j hi hj h1)
    · subst h1; rfl
    · exact absurd (hxs.trans h.symm) (hp j i hj hi h1)
theorem takeF_length {F : FilD} (hok : F.ok) {r : RecD} (h : firstF F = some r) : (takeF F).L.length + 1 = F.L.length := by
  obtain ⟨hr, hs⟩ := firstF_some h
  obtain ⟨j, hj, e⟩ := List.getElem_of_mem hr
  have := eraseIdx_filter (fun r : RecD => r.seq) F.L j r (by rw [List.getElem?_eq_getElem hj, e]) hok.apart
  unfold takeF
  dsimp only
  rw [← hs, ← this, List.length_eraseIdx]
  rw [if_pos hj]
  omega
theorem takeF_ok {F : FilD} (hok : F.ok) {r : RecD} (h : firstF F = some r) : (takeF F).ok := by
  obtain ⟨hr, hs⟩ := firstF_some h
  have hg := good_of (hok.each r hr).1
  refine ⟨hok.site0, hok.site1, hok.room0, hok.room1, by have := hok.next0; simp [takeF]; omega, by simp [takeF]; omega, ?_, hok.apart.sublist (List.filter_sublist ..)⟩
  intro x hx
  simp only [takeF, List.mem_filter, decide_eq_true_eq] at hx ⊢
  obtain ⟨h1, h2, h3, h4⟩ := hok.each x hx.1
  exact ⟨h1, h2, by have := hx.2; omega, by omega⟩
theorem readyF_more : ∀ (n : Nat) (F : FilD), F.ok → F.L.length ≤ n → readyF n F = readyL F
  | 0, F, hok, h => by
    unfold readyL
    rw [Nat.le_zero.1 h]
  | n + 1, F, hok, h => by
    unfold readyL
    cases hl : F.L.length with
    | zero =>
      have : F.L = [] := List.length_eq_zero_iff.1 hl
      simp [readyF, firstF, this]
    | succ m =>
      unfold readyF
      cases hf : firstF F with
      | none => rfl
      | some r =>
        have e := takeF_length hok hf
        dsimp only
        rw [readyF_more n (takeF F) (takeF_ok hok hf) (by omega), readyF_more m (takeF F) (takeF_ok hok hf) (by omega)]
theorem readyL_none {F : FilD} (h : firstF F = none) : readyL F = [] := by
  unfold readyL
  cases F.L.length with
  | zero => rfl
  | succ m => simp [readyF, h]
theorem readyL_some {F : FilD} (hok : F.ok) {r : RecD} (h : firstF F = some r) : readyL F = r :: readyL (takeF F) := by
  have e := takeF_length hok h
  have : readyL F = readyF ((takeF F).L.length + 1) F := by unfold readyL; rw [e]
  rw [this, readyF, h]
  rfl
/-- Behind so many that were taken the others are ready. -/
theorem readyL_takes : ∀ (k : Nat) (F : FilD), F.ok → k ≤ (readyL F).length → (takesF k F).ok ∧ readyL (takesF k F) = (readyL F).drop k
  | 0, F, hok, _ => ⟨hok, rfl⟩
  | k + 1, F, hok, h => by
    cases hf : firstF F with
    | none => rw [readyL_none hf] at h; simp at h
    | some r =>
      have e := readyL_some hok hf
      rw [e] at h
      have := readyL_takes k (takeF F) (takeF_ok hok hf) (by simpa using h)
      rw [e]
      exact this
theorem takesF_succ : ∀ (k : Nat) (F : FilD), takesF (k + 1) F = takeF (takesF k F)
  | 0, F => rfl
  | k + 1, F => by
    show takesF (k + 1) (takeF F) = _
    rw [takesF_succ k (takeF F)]
    rfl
theorem takesF_next : ∀ (k : Nat) (F : FilD), (takesF k F).next = F.next + k
  | 0, F => by simp [takesF]
  | k + 1, F => by
    show (takesF k (takeF F)).next = _
    rw [takesF_next k (takeF F)]
    simp [takeF]
    omega
/-- What is the k-th to go on. -/
theorem readyL_first {F : FilD} (hok : F.ok) (k : Nat) (h : k ≤ (readyL F).length) : firstF (takesF k F) = (readyL F)[k]? := by
  obtain ⟨h1, h2⟩ := readyL_takes k F hok h
  cases hf : firstF (takesF k F) with
  | none =>
    rw [readyL_none hf] at h2
    have := congrArg List.length h2
    simp at this
    rw [List.getElem?_eq_none (by omega)]
  | some r =>
    rw [readyL_some h1 hf] at h2
    have := congrArg (fun l => l[0]?) h2
    simpa using this
theorem readyL_seq {F : FilD} (hok : F.ok) (k : Nat) (h : k < (readyL F).length) : ((readyL F)[k]).seq = F.next + k := by
  have := readyL_first hok k (by omega)
  rw [List.getElem?_eq_getElem h] at this
  rw [(firstF_some this).2, takesF_next]

/-- What Put tells, and what it makes. -/
def putE (F : FilD) (r : RecD) : Int :=
  if checkR r 8 = 0 then (if r.site = F.site then (if (F.L.any fun x => decide (x.seq = r.seq)) || decide (r.seq < F.next) then 5 else if F.next + F.room ≤ r.seq then 6 else 0) else 1) else checkR r 8
def putF (F : FilD) (r : RecD) : FilD := if putE F r = 0 then ⟨F.site, F.room, F.next, F.L ++ [r]⟩ else F
/-- What Reset tells, and what it makes. -/
def resetE (n : Int) : Int := if 1 ≤ n ∧ n ≤ 1048577 then 0 else 1
def resetF (F : FilD) (n : Int) : FilD := if 1 ≤ n ∧ n ≤ 1048577 then ⟨F.site, F.room, n, []⟩ else F

theorem putE_ok {F : FilD} {r : RecD} (h : putE F r = 0) : checkR r 8 = 0 ∧ r.site = F.site ∧ (∀ x ∈ F.L, x.seq ≠ r.seq) ∧ F.next ≤ r.seq ∧ r.seq < F.next + F.room := by
  unfold putE at h
  split at h
  · split at h
    · split at h
      · cases h
      · split at h
        · cases h
        · rename_i h1 h2 h3 h4
          simp only [Bool.or_eq_true, List.any_eq_true, decide_eq_true_eq, not_or, not_exists, not_and] at h3
          exact ⟨h1, h2, h3.1, by omega, by omega⟩
    · cases h
  · rename_i h1
    exact absurd h h1
theorem putF_ok {F : FilD} (hok : F.ok) (r : RecD) : (putF F r).ok := by
  unfold putF
  split
  · rename_i h
    obtain ⟨h1, h2, h3, h4, h5⟩ := putE_ok h
    refine ⟨hok.site0, hok.site1, hok.room0, hok.room1, hok.next0, hok.next1, ?_, ?_⟩
    · intro x hx
      rcases List.mem_append.1 hx with hx | hx
      · exact hok.each x hx
      · rw [List.mem_singleton.1 hx]
        exact ⟨h1, h2, h4, h5⟩
    · rw [List.pairwise_append]
      refine ⟨hok.apart, by simp, fun a ha b hb => ?_⟩
      rw [List.mem_singleton.1 hb]
      exact h3 a ha
  · exact hok
theorem resetF_ok {F : FilD} (hok : F.ok) (n : Int) : (resetF F n).ok := by
  unfold resetF
  split
  · rename_i h
    exact ⟨hok.site0, hok.site1, hok.room0, hok.room1, h.1, h.2, fun _ h => (by cases h), List.Pairwise.nil⟩
  · exact hok

end Go.Proofs.Ytompaldhnbcikaa
