/- batch's Take: its sequence. Own work; no statement. -/
import Derived.Test.YtpkjkhpnhcbciaaB3
set_option linter.unusedSimpArgs false
set_option linter.unusedVariables false
namespace Go.Proofs.Ytpkjkhpnhcbciaa
open Go.RowKit Go.Shelf

attribute [local go_sem] Oper.semAt_some

/-- Who asks lets the batch's blocks alone, and the box. -/
def KpB (p : Nat) (g : Option Nat) (bx : Nat) (A C : World) : Prop := ∀ c, onBat p g c ∨ c = bx → C.heap[c]? = A.heap[c]?
theorem kpB_t {p bx : Nat} {g : Option Nat} {A B C : World} (h : KpB p g bx A B) (k : KpB p g bx B C) : KpB p g bx A C := fun c hc => (k c hc).trans (h c hc)
theorem kpB_b {p bx m : Nat} {g : Option Nat} (h1 : ∀ c, onBat p g c → c < m) (h3 : bx < m) (W : World) (l : Nat) (o o' : Obj) (hl : m ≤ l) (_ : W.heap[l]? = some o) (_ : o.isCells = false) (_ : o.isWalk = false) : KpB p g bx W (W.putObj l o') := by
  intro c hc
  refine World.putObj_heap_other ?_
  rcases hc with hc | rfl
  · have := h1 c hc; omega
  · omega
theorem kpB_n {p bx : Nat} {g : Option Nat} {A C : World} (h : Below A.heap.size A C) (h1 : ∀ c, onBat p g c → c < A.heap.size) (h3 : bx < A.heap.size) : KpB p g bx A C :=
  fun c hc => h.block c (by rcases hc with hc | rfl; exact h1 c hc; exact h3)

/-- The batch, so many taken, and the box that Take's sequence goes by. -/
def StB (B p : Nat) (g : Option Nat) (bx : Nat) (D : BatD) (k : Nat) (W : World) : Prop := IsBat W B p g (takesB k D) ∧ Boxed W bx 24 (.pointer (some ⟨p, 0, none⟩))
theorem StB.kp {B p bx : Nat} {g : Option Nat} {D : BatD} {k : Nat} {A C : World} (h : StB B p g bx D k A) (hk : KpB p g bx A C) : StB B p g bx D k C :=
  ⟨h.1.keep fun c hc => hk c (.inl hc), boxed_of_heap h.2 (hk bx (.inr rfl))⟩
theorem StB.below {B p bx : Nat} {g : Option Nat} {D : BatD} {k : Nat} {A C : World} (h : StB B p g bx D k A) (hb : Below A.heap.size A C) : StB B p g bx D k C := h.kp (kpB_n hb (fun c hc => (h.1.on hc).2) h.2.lt)
theorem StB.own {B p bx : Nat} {g : Option Nat} {D : BatD} {n : Nat} : OwnFrom n (StB B p g bx D) := by
  rintro k A C row h hg hr
  exact ⟨h.1.own hg (fun r e => (hr r e).2), boxed_own' hg (fun r e => (hr r e).2) h.2⟩
/-- What is handed over: the next of those that go on at once. -/
def GvB (D : BatD) (k : Nat) (v : Value) (_ : World) : Prop := ∃ x, (readyB D)[k]? = some x ∧ v = .int .i64 x

/-- One taken away: memory. -/
theorem take_mem {W w1 : World} {B p : Nat} {g : Option Nat} {D : BatD} {k : Nat} {x : Int} {l : List Int} {a : Option Addr} {cap : Nat} (h : IsBat W B p g (takesB k D)) (hl : (takesB k D).L = x :: l)
    (hp : W.heap[p]? = some (.cells #[.int .i64 D.size, .int .i64 D.room, .slice a (l.length + 1) cap] 42 (0, 0))) (hv : (Value.slice a (l.length + 1) cap).ownBlock = g)
    (hr : W.ownsRow B 3 1 (.slice a (l.length + 1) cap) (l.length + 1) ((x :: l).map (Value.int .i64)))
    (hr1 : w1.ownsRow B 3 1 (.slice a l.length cap) l.length (l.map (Value.int .i64))) (ht : Touch (fun k => (Value.slice a (l.length + 1) cap).ownBlock = some k) W w1) :
    w1.heap[p]? = some (.cells #[.int .i64 D.size, .int .i64 D.room, .slice a (l.length + 1) cap] 42 (0, 0)) ∧ IsBat (w1.setCell ⟨p, 2, none⟩ (.slice a l.length cap)) B p g (takesB (k + 1) D) ∧ Touch (onBat p g) W (w1.setCell ⟨p, 2, none⟩ (.slice a l.length cap)) := by
  have hne : some p ≠ (Value.slice a (l.length + 1) cap).ownBlock := row_not hr hp (by decide)
  have hp1 : w1.heap[p]? = some (.cells #[.int .i64 D.size, .int .i64 D.room, .slice a (l.length + 1) cap] 42 (0, 0)) := (ht.block p (ltAt hp) fun e => hne e.symm).trans hp
  have ho : (Value.slice a l.length cap).ownBlock = (Value.slice a (l.length + 1) cap).ownBlock := by cases a <;> rfl
  have hl2 : (takesB (k + 1) D).L = l := by rw [takesB_succ]; simp [hl]
  refine ⟨hp1, ⟨⟨h.ok.low, h.ok.fits, h.ok.high, by have := h.ok.held; rw [hl] at this; rw [hl2]; simp [takesB] at this ⊢; omega⟩, h.low, .slice a l.length cap, ho.trans hv, ?_, ?_⟩, ?_⟩
  · simpa [takesB] using setAt (j := 2) hp1 (.slice a l.length cap)
  · rw [hl2]
    exact ownsRow_of_heap hr1 fun c e => Below.heap_setCell _ _ _ _ fun e' => by
      rw [ho] at e
      exact hne (by rw [e]; exact congrArg some e'.symm)
  · exact (ht.mono fun c _ e => .inr (hv.symm.trans e)).set _ _ (.inl rfl)

end Go.Proofs.Ytpkjkhpnhcbciaa
