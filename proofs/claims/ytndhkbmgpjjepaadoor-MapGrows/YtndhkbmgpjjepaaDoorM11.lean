/- stripe's Positions: what it answers. Own work; no statement. -/
import Derived.Test.YtndhkbmgpjjepaaDoorM10
set_option linter.unusedSimpArgs false
set_option linter.unusedVariables false
namespace Go.Proofs.YtndhkbmgpjjepaaDoor
open Go.RowKit Go.Shelf

attribute [local go_sem] Oper.semAt_some

/-- The map that Positions goes over. -/
def thenM (m : MapD) : MapD := if okMap m then m else []

/-- What Positions' sequence goes by: boxes b to b + 3, and the row. -/
def onPos (b : Nat) (v : Value) (c : Nat) : Prop := (b ≤ c ∧ c < b + 4) ∨ v.ownBlock = some c
structure IsPos (w : World) (b : Nat) (v : Value) (m : MapD) (k a e : Int) : Prop where
  bk : Boxed w b 3 (.int .i64 k)
  ba : Boxed w (b + 1) 3 (.int .i64 a)
  be : Boxed w (b + 2) 3 (.int .i64 e)
  bm : Boxed w (b + 3) 23 v
  row : OwnsM w 0 v m
theorem IsPos.lt {w : World} {b : Nat} {v : Value} {m : MapD} {k a e : Int} (h : IsPos w b v m k a e) {c : Nat} (hc : onPos b v c) : c < w.heap.size := by
  rcases hc with hc | hc
  · have := h.bm.lt
    omega
  · exact (h.row.lt c hc).2
theorem IsPos.keep {w w' : World} {b : Nat} {v : Value} {m : MapD} {k a e : Int} (h : IsPos w b v m k a e) (hk : ∀ c, onPos b v c → w'.heap[c]? = w.heap[c]?) : IsPos w' b v m k a e :=
  ⟨boxed_of_heap h.bk (hk _ (.inl (by omega))), boxed_of_heap h.ba (hk _ (.inl (by omega))), boxed_of_heap h.be (hk _ (.inl (by omega))), boxed_of_heap h.bm (hk _ (.inl (by omega))), ownsRow_of_heap h.row fun k e => hk k (.inr e)⟩
theorem IsPos.below {w w' : World} {b : Nat} {v : Value} {m : MapD} {k a e : Int} (h : IsPos w b v m k a e) (hb : Below w.heap.size w w') : IsPos w' b v m k a e := h.keep fun _ hc => hb.block _ (h.lt hc)

set_option maxHeartbeats 2000000 in
theorem positions_calls (v : Value) (m : MapD) (k a e : Int) (w : World) (hv : IsMap w v m) (hl : m.length ≤ 1099511627776) :
    Calls Tryd.prog 22 #[v, .int .i64 k, .int .i64 a, .int .i64 e] w fun en w' =>
      en = .returned (.func (.func 32) #[] #[.pointer (some ⟨w.heap.size + 3, 0, none⟩), .pointer (some ⟨w.heap.size + 2, 0, none⟩), .pointer (some ⟨w.heap.size, 0, none⟩), .pointer (some ⟨w.heap.size + 1, 0, none⟩)]) ∧
      (∃ vr, IsPos w' w.heap.size vr (thenM m) k a e) ∧ Below w.heap.size w w' := by
  have hmf : ∀ (fn : Fn) (first cap : Array Value) (w : World), (Instr.makeFunc fn first cap).run Tryd.prog w = .ok (.func fn first cap) w := fun _ _ _ _ => rfl
  obtain ⟨W0, hW0⟩ : ∃ W0, (((w.alloc (.cells #[.int .i64 k] 3)).alloc (.cells #[.int .i64 a] 3)).alloc (.cells #[.int .i64 e] 3)).alloc (.cells #[.slice none 0 0] 23) = W0 := ⟨_, rfl⟩
  have s0 : W0.heap.size = w.heap.size + 4 := by rw [← hW0]; simp
  have x0 : Boxed W0 w.heap.size 3 (.int .i64 k) := by rw [← hW0]; exact ((((boxed_new' (by simp)).alloc _).alloc _).alloc _)
  have x1 : Boxed W0 (w.heap.size + 1) 3 (.int .i64 a) := by rw [← hW0]; exact (((boxed_new' (by simp)).alloc _).alloc _)
  have x2 : Boxed W0 (w.heap.size + 2) 3 (.int .i64 e) := by rw [← hW0]; exact ((boxed_new' (by simp)).alloc _)
  have x3 : Boxed W0 (w.heap.size + 3) 23 (.slice none 0 0) := by rw [← hW0]; exact (boxed_new' (by simp))
  have hB0 : Below w.heap.size w W0 := by
    rw [← hW0]
    exact ((((Below.refl _ w).alloc (Nat.le_refl _) _).alloc (by simp) _).alloc (by simp; omega) _).alloc (by simp; omega) _
  have C := hide (mapCheck_calls v m W0 (hv.below hB0) hl)
  have Hv := hide hv
  obtain ⟨va, cap, rfl⟩ := hv.slice
  have HW := hide hW0
  clear hW0 hv
  by_cases hok : okMap m = true
  · have hc0 : checkM m = 0 := by rw [checkM, if_pos hok]
    have ht : thenM m = m := by rw [thenM, if_pos hok]
    rw [hc0] at C
    rw [ht]
    go_enter Tryd.func22, Tryd.ntmps22
    go_wp2_with fail
    rw [HW.out]
    refine C.out.mono ?_
    rintro en w1 ⟨rfl, hB1⟩
    have D := hide (mapClone_calls _ m w1 ((Hv.out.below hB0).below hB1) (okMap_pos hok) hl)
    have y3 := boxed_of_heap x3 (hB1.block _ x3.lt)
    clear C HW
    go_wp2_with (go_at_call 31; refine D.out.mono ?_; rintro en w2 ⟨v2, rfl, hown, hB2⟩; obtain ⟨a2, cap2, rfl⟩ := ownsRow_slice hown; have z3 := boxed_of_heap y3 (hB2.block _ y3.lt); have c3 := z3.cell; have f3 := z3.frozen)
    go_ret
    have hs1 := hB1.size
    have hs2 := hB2.size
    have hk : ∀ c, c < w.heap.size + 4 → c ≠ w.heap.size + 3 → (w2.setCell ⟨w.heap.size + 3, 0, none⟩ (.slice a2 m.length cap2)).heap[c]? = W0.heap[c]? := fun c h1 h2 => (Below.heap_setCell _ _ _ _ h2).trans ((hB2.block c (by omega)).trans (hB1.block c (by omega)))
    refine ⟨rfl, ⟨_, boxed_of_heap x0 (hk _ (by omega) (by omega)), boxed_of_heap x1 (hk _ (by omega) (by omega)), boxed_of_heap x2 (hk _ (by omega) (by omega)), z3.set _, ?_⟩, (((hB0.trans (hB1.mono hB0.size)).trans (hB2.mono (hB0.trans (hB1.mono hB0.size)).size))).setCell (p := ⟨w.heap.size + 3, 0, none⟩) (by simp) _⟩
    exact ownsRow_low (ownsRow_of_heap hown fun k e => Below.heap_setCell _ _ _ _ fun e' => by have := (hown.lt k e).1; have e2 : k = w.heap.size + 3 := e'; omega) (Nat.zero_le _)
  · have hc0 : checkM m = 1 := by rw [checkM, if_neg hok]
    have ht : thenM m = [] := by rw [thenM, if_neg hok]
    rw [hc0] at C
    rw [ht]
    go_enter Tryd.func22, Tryd.ntmps22
    go_wp2_with fail
    rw [HW.out]
    refine C.out.mono ?_
    rintro en w1 ⟨rfl, hB1⟩
    clear C HW
    go_wp2
    go_ret
    have hk : ∀ c, c < w.heap.size + 4 → w1.heap[c]? = W0.heap[c]? := fun c h1 => hB1.block c (by omega)
    exact ⟨rfl, ⟨_, boxed_of_heap x0 (hk _ (by omega)), boxed_of_heap x1 (hk _ (by omega)), boxed_of_heap x2 (hk _ (by omega)), boxed_of_heap x3 (hk _ (by omega)), World.ownsRow_nil _ _ _ _⟩, hB0.trans (hB1.mono hB0.size)⟩

end Go.Proofs.YtndhkbmgpjjepaaDoor
