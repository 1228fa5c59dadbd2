/- vec's parseNumbers and Parse: a text as a vector. Own work; no statement. -/
import Derived.Test.YtpkjkhpnhcbciaaW12
set_option linter.unusedSimpArgs false
set_option linter.unusedVariables false
namespace Go.Proofs.Ytpkjkhpnhcbciaa
open Go.RowKit Go.Shelf

attribute [local go_sem] Oper.semAt_some

/-- 'x = append(x, ..)' by way of x's box B, the rows all beyond the boxes: every other block below them is as it was. -/
theorem app_low {W w1 : World} {N n₁ B : Nat} {t e : TypeId} {v v' : Value} {k m : Nat} {xs ys : List Value} {tmp : Obj} (hv : Boxed W B t v) (hrow : W.ownsRow n₁ e 1 v k xs) (hn : n₁ ≤ W.heap.size) (hB : B < n₁) (hN : N ≤ B)
    (hown : w1.ownsRow n₁ e 1 v' m ys) (hgrow : (W.alloc tmp).grownBy w1 v.ownBlock) :
    Boxed w1 B t v ∧ Boxed (w1.setCell ⟨B, 0, none⟩ v') B t v' ∧ (w1.setCell ⟨B, 0, none⟩ v').ownsRow n₁ e 1 v' m ys ∧ KeepsOthers W (w1.setCell ⟨B, 0, none⟩ v') ∧ Below N W (w1.setCell ⟨B, 0, none⟩ v') ∧
      Hid (∀ b, b < n₁ → b ≠ B → (w1.setCell ⟨B, 0, none⟩ v').heap[b]? = W.heap[b]?) := by
  have hne : ∀ b, b < n₁ → some b ≠ v.ownBlock := fun b hb e' => by have := (hrow.lt b e'.symm).1; omega
  have hv1 : Boxed w1 B t v := (hv.alloc tmp).kept hgrow (hne B hB)
  have hoth : ∀ b, b < n₁ → b ≠ B → (w1.setCell ⟨B, 0, none⟩ v').heap[b]? = W.heap[b]? := fun b hb hbB => app_other hgrow b (by omega) (hne b hb) hbB
  refine ⟨hv1, hv1.set v', ownsRow_of_heap hown (fun k hk => Below.heap_setCell _ _ _ _ (fun e' => by have := (hown.lt k hk).1; have e2 : k = B := e'; omega)), ?_, ?_, hoth⟩
  · refine ((KeepsOthers.alloc W tmp).trans (KeepsOthers.of_grownBy hgrow fun j o ej hj => ?_)).trans (KeepsOthers.setCell _ _ _)
    rcases (hrow.alloc tmp).2 with ⟨rfl, _⟩ | ⟨g, cap, cur, rfl, _, hgb, _⟩
    · simp [Value.ownBlock] at ej
    · obtain rfl : g = j := by simpa [Value.ownBlock] using ej
      rw [hgb] at hj; cases hj; rfl
  · exact (((Below.refl N W).alloc (by omega) tmp).grown hgrow (by simp; omega) (fun j ej => by have := (hrow.lt j ej).1; omega)).setCell (p := ⟨B, 0, none⟩) hN v'

theorem boxed_new' {W : World} {b : Nat} {t : TypeId} {v : Value} (h : b = W.heap.size) : Boxed (W.alloc (.cells #[v] t)) b t v := h ▸ Boxed.new W t v

theorem one_set {W : World} {a : Nat} {u : Value} (k : Nat) (h : k ≠ a) : (W.setCell ⟨a, 0, none⟩ u).heap[k]? = W.heap[k]? := Below.heap_setCell _ _ _ _ h
theorem two_sets {W : World} {a b : Nat} {u v : Value} (k : Nat) (h1 : k ≠ a) (h2 : k ≠ b) : ((W.setCell ⟨a, 0, none⟩ u).setCell ⟨b, 0, none⟩ v).heap[k]? = W.heap[k]? := (one_set k h2).trans (one_set k h1)

/-- One word more: what is there, the last number, whether there was too much. -/
def stepW (st : List Int × Int × Bool) (x : List UInt8) : List Int × Int × Bool :=
  if 1048576 < decTo x 0 ∨ st.1.length = 8 then (st.1, decTo x 0, true) else (st.1 ++ [decTo x 0], decTo x 0, st.2.2)
def stOf (ws : List (List UInt8)) : List Int × Int × Bool := ws.foldl stepW ([], 0, false)
theorem stOf_snoc (ws : List (List UInt8)) (x : List UInt8) : stOf (ws ++ [x]) = stepW (stOf ws) x := by simp [stOf]
theorem stOf_len : ∀ (ws : List (List UInt8)), (stOf ws).1.length ≤ 8 := by
  have : ∀ (ws : List (List UInt8)) st, st.1.length ≤ 8 → (ws.foldl stepW st).1.length ≤ 8 := by
    intro ws
    induction ws with
    | nil => intro st h; exact h
    | cons x ws ih =>
      intro st h
      refine ih _ ?_
      unfold stepW
      split
      · exact h
      · simp; omega
  exact fun ws => this ws _ (by simp)
/-- Words as numbers, or why not: the vector and the error's number. -/
def parseN (ws : List (List UInt8)) : List Int × Int :=
  if ws.all decOk then (if (stOf ws).2.1 = 0 then ([], 2) else if (stOf ws).2.2 then ([], 4) else ((stOf ws).1, 0)) else ([], 2)

end Go.Proofs.Ytpkjkhpnhcbciaa
