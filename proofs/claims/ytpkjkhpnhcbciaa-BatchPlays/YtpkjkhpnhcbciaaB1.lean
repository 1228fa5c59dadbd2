/- Batches of numbers, as plain data and in memory; what the library's Delete and Clone do to their rows. Own work; no statement. -/
import Derived.Test.YtpkjkhpnhcbciaaSetL
set_option linter.unusedSimpArgs false
set_option linter.unusedVariables false
namespace Go.Proofs.Ytpkjkhpnhcbciaa
open Go.RowKit Go.Shelf Go.Sort

/-- What a batch has: the first ones first. -/
structure BatD where
  size : Int
  room : Int
  L : List Int

structure BatD.ok (D : BatD) : Prop where
  low : 1 ≤ D.size
  fits : D.size ≤ D.room
  high : D.room ≤ 64
  held : (D.L.length : Int) ≤ D.room

/-- So many taken away at the front. -/
def takesB (k : Nat) (D : BatD) : BatD := ⟨D.size, D.room, D.L.drop k⟩
/-- What goes on at once. -/
def readyB (D : BatD) : List Int := D.L.take D.size.toNat
/-- What Add tells, and what it makes. -/
def addE (D : BatD) : Int := if D.room ≤ (D.L.length : Int) then 6 else 0
def addB (D : BatD) (x : Int) : BatD := if D.room ≤ (D.L.length : Int) then D else ⟨D.size, D.room, D.L ++ [x]⟩

theorem takesB_ok {D : BatD} (h : D.ok) (k : Nat) : (takesB k D).ok := ⟨h.low, h.fits, h.high, by have := h.held; simp [takesB]; omega⟩
theorem takesB_succ (k : Nat) (D : BatD) : takesB (k + 1) D = ⟨(takesB k D).size, (takesB k D).room, (takesB k D).L.tail⟩ := by simp [takesB]
theorem addB_ok {D : BatD} (h : D.ok) (x : Int) : (addB D x).ok := by
  unfold addB
  split
  · exact h
  · exact ⟨h.low, h.fits, h.high, by simp; omega⟩
theorem readyB_le (D : BatD) : (readyB D).length ≤ D.L.length := by simp [readyB]; omega
theorem readyB_len {D : BatD} (h : D.ok) : (readyB D).length ≤ 64 := by
  have := h.low
  have := h.fits
  have := h.high
  simp [readyB]
  omega
theorem readyB_first {D : BatD} (k : Nat) (hk : (k : Int) < D.size) : (takesB k D).L.head? = (readyB D)[k]? := by
  unfold takesB readyB
  rw [List.head?_drop, List.getElem?_take_of_lt (by omega)]

/-- At block p there lies a batch, what it holds in a row of its own, at block g. -/
structure IsBat (w : World) (B p : Nat) (g : Option Nat) (D : BatD) : Prop where
  ok : D.ok
  low : B ≤ p
  val : ∃ v, v.ownBlock = g ∧ w.heap[p]? = some (.cells #[.int .i64 D.size, .int .i64 D.room, v] 42 (0, 0)) ∧ w.ownsRow B 3 1 v D.L.length (D.L.map (Value.int .i64))

/-- The blocks of a batch. -/
def onBat (p : Nat) (g : Option Nat) (k : Nat) : Prop := k = p ∨ g = some k

theorem IsBat.lt {w : World} {B p : Nat} {g : Option Nat} {D : BatD} (h : IsBat w B p g D) : p < w.heap.size := by
  obtain ⟨v, _, hp, _⟩ := h.val
  exact ltAt hp
theorem IsBat.row {w : World} {B p : Nat} {g : Option Nat} {D : BatD} (h : IsBat w B p g D) : ∀ k, g = some k → B ≤ k ∧ k < w.heap.size := by
  obtain ⟨v, rfl, hp, hr⟩ := h.val
  exact hr.lt
theorem IsBat.on {w : World} {B p : Nat} {g : Option Nat} {D : BatD} (h : IsBat w B p g D) {k : Nat} (hk : onBat p g k) : B ≤ k ∧ k < w.heap.size := by
  rcases hk with rfl | e
  · exact ⟨h.low, h.lt⟩
  · exact h.row k e
/-- Where its blocks are as they were a batch is as it was. -/
theorem IsBat.keep {w w' : World} {B p : Nat} {g : Option Nat} {D : BatD} (h : IsBat w B p g D) (hk : ∀ k, onBat p g k → w'.heap[k]? = w.heap[k]?) : IsBat w' B p g D := by
  obtain ⟨v, hv, hp, hr⟩ := h.val
  exact ⟨h.ok, h.low, v, hv, (hk p (.inl rfl)).trans hp, ownsRow_of_heap hr fun k e => hk k (.inr (hv ▸ e))⟩
theorem IsBat.touch {w w' : World} {S : Nat → Prop} {B p : Nat} {g : Option Nat} {D : BatD} (h : IsBat w B p g D) (t : Touch S w w') (hS : ∀ k, onBat p g k → ¬ S k) : IsBat w' B p g D :=
  h.keep fun k hk => t.block k (h.on hk).2 (hS k hk)
theorem IsBat.new {w w' : World} {B p : Nat} {g : Option Nat} {D : BatD} (h : IsBat w B p g D) (t : Below w.heap.size w w') : IsBat w' B p g D :=
  h.keep fun k hk => t.block k (h.on hk).2
/-- A batch and what is own of a world: cells alone. -/
theorem IsBat.own {X Y : World} {row : Option Nat} {B p : Nat} {g : Option Nat} {D : BatD} (h : IsBat X B p g D) (hg : X.grownBy Y row) (hrow : ∀ r, row = some r → ∃ o : Obj, X.heap[r]? = some o ∧ o.isCells = false) : IsBat Y B p g D := by
  obtain ⟨v, hv, hp, hr⟩ := h.val
  exact ⟨h.ok, h.low, v, hv, (own_keeps hg hrow hp).trans hp, ownsRow_own' hg hrow hr⟩
theorem IsBat.len {w : World} {B p : Nat} {g : Option Nat} {D : BatD} (h : IsBat w B p g D) : D.L.length ≤ 64 := by
  have := h.ok.held
  have := h.ok.high
  omega
/-- A block of another type is none of a batch's. -/
theorem IsBat.off {w : World} {B p : Nat} {g : Option Nat} {D : BatD} (h : IsBat w B p g D) {b : Nat} {c : Array Value} {t : TypeId} {f : Nat × Nat} (hb : w.heap[b]? = some (.cells c t f)) (h1 : t ≠ 42) (h2 : t ≠ 3) : ¬ onBat p g b := by
  obtain ⟨v, rfl, hp, hr⟩ := h.val
  rintro (rfl | e)
  · rw [hp] at hb
    simp only [Option.some.injEq, Obj.cells.injEq] at hb
    exact h1 hb.2.1.symm
  · exact row_not hr hb h2 e.symm

/-- A batch's cells, for a walk. -/
theorem IsBat.open {w : World} {B p : Nat} {g : Option Nat} {D : BatD} (h : IsBat w B p g D) : ∃ a cap, w.cell? ⟨p, 0, none⟩ = some (.int .i64 D.size) ∧ w.cell? ⟨p, 1, none⟩ = some (.int .i64 D.room) ∧ w.cell? ⟨p, 2, none⟩ = some (.slice a D.L.length cap) ∧
    (∀ j, w.frozen? ⟨p, j, none⟩ = false) ∧ (Value.slice a D.L.length cap).ownBlock = g ∧ w.ownsRow B 3 1 (.slice a D.L.length cap) D.L.length (D.L.map (Value.int .i64)) ∧
    w.heap[p]? = some (.cells #[.int .i64 D.size, .int .i64 D.room, .slice a D.L.length cap] 42 (0, 0)) := by
  obtain ⟨v, hv, hp, hr⟩ := h.val
  obtain ⟨a, cap, rfl⟩ := ownsRow_slice hr
  exact ⟨a, cap, by simpa using cellsAt hp 0, by simpa using cellsAt hp 1, by simpa using cellsAt hp 2, fun j => frozenAt hp j, hv, hr, hp⟩

/-- A row of numbers, cell by cell. -/
theorem ints_cell {w : World} {B : Nat} {e : TypeId} {a : Option Addr} {cap : Nat} {l : List Int} (h : w.ownsRow B e 1 (.slice a l.length cap) l.length (l.map (Value.int .i64))) (t : Nat) (ht : t < l.length) :
    ∃ b, a = some ⟨b, 0, none⟩ ∧ w.cell? ⟨b, t, none⟩ = some (.int .i64 l[t]) := by
  rcases h.2 with ⟨e', h0⟩ | ⟨g, cap', cur, e', _⟩
  · omega
  · simp only [Value.slice.injEq] at e'
    obtain ⟨rfl, -, rfl⟩ := e'
    refine ⟨g, rfl, ?_⟩
    rw [h.cellAt t (by omega)]
    simp [ht]

/-- slices.Delete of a row's first. -/
theorem deleteHead_calls (B cap : Nat) (a : Option Addr) (x : Int) (l : List Int) (w : World) (hr : w.ownsRow B 3 1 (.slice a (l.length + 1) cap) (l.length + 1) ((x :: l).map (Value.int .i64))) :
    Calls Try.prog 18 #[.slice a (l.length + 1) cap, .int .i64 0, .int .i64 1] w fun e w' => e = .returned (.slice a l.length cap) ∧ w'.ownsRow B 3 1 (.slice a l.length cap) l.length (l.map (Value.int .i64)) ∧ Touch (fun k => (Value.slice a (l.length + 1) cap).ownBlock = some k) w w' := by
  rcases hr.2 with ⟨e, h0⟩ | ⟨g, cap', cur, e, hb, hg, hnc, hcm, hcs, ht⟩
  · omega
  · simp only [Value.slice.injEq, true_and] at e
    obtain ⟨rfl, rfl⟩ := e
    refine (Try.slices_Delete_int_cells g 0 (l.length + 1) cap 0 1 (x :: l) w (by simp) hnc (by unfold maxLen at hcm; exact hcm) (by omega) (by omega) ?_ ?_).mono ?_
    · intro i hi
      rw [Nat.zero_add, hr.cellAt i (by simp at hi; omega)]
      simp only [List.getElem?_map]
      simp at hi
      simp [List.getD, List.getElem?_eq_getElem (show i < (x :: l).length by simp; omega)]
    · intro j _
      exact frozenAt hg _
    · rintro e w' ⟨rfl, q, rfl⟩
      refine ⟨by rw [show l.length + 1 - (1 - 0) = l.length by omega], ⟨by simp, .inr ⟨g, cap, _, rfl, hb, heap_setCells _ 0 (w.drewN q) cur hg, by omega, hcm, by rw [setL_size]; exact hcs, ?_⟩⟩, (touch_new (drewsB w q)).trans (touch_setCells (S := fun k => (Value.slice (some ⟨g, 0, none⟩) (l.length + 1) cap).ownBlock = some k) rfl _ _ _)⟩
      apply List.ext_getElem?
      intro k
      by_cases hk : k < l.length
      · have hkc : k < cur.size := by omega
        rw [List.getElem?_take_of_lt (by omega), Array.getElem?_toList, setL_get _ _ _ _ hkc, if_pos (by simp; omega)]
        rw [Nat.sub_zero]
        simp [hk]
        rw [List.getElem?_append_left (by simp; omega)]
        simp [hk]
      · rw [List.getElem?_eq_none (by simp; omega), List.getElem?_eq_none (by simp; omega)]

theorem cloneInts_calls (B : Nat) (v : Value) (l : List Int) (w : World) (hr : w.ownsRow B 3 1 v l.length (l.map (Value.int .i64))) (hl : l.length ≤ 1099511627776) :
    Calls Try.prog 15 #[v] w fun e w' => ∃ v', e = .returned v' ∧ w'.ownsRow w.heap.size 3 1 v' l.length (l.map (Value.int .i64)) ∧ Below w.heap.size w w' := by
  rcases hr.2 with ⟨rfl, h0⟩ | ⟨g, cap, cur, rfl, hb, hg, hnc, hcm, hcs, ht⟩
  · have e : l = [] := List.eq_nil_of_length_eq_zero h0
    subst e
    refine (Try.slices_Clone_int_nil 0 0 w).mono ?_
    rintro e w' ⟨rfl, rfl⟩
    exact ⟨_, rfl, World.ownsRow_nil _ _ _ _, Below.refl _ _⟩
  · refine (Try.slices_Clone_int g 0 l.length cap l w (Nat.le_refl _) (by omega) ?_).mono ?_
    · intro j hj
      rw [Nat.zero_add, hr.cellAt j (by omega)]
      simp [List.getD, hj]
    · rintro e w' ⟨v', rfl, hown, -, hB⟩
      rw [List.take_of_length_le (Nat.le_refl _)] at hown
      exact ⟨v', rfl, hown, hB⟩

end Go.Proofs.Ytpkjkhpnhcbciaa
