/- Cells laid over others, from a place on. Own work; no statement. -/
import Derived.Test.YtpkjkhpnhcbciaaD1
set_option linter.unusedSimpArgs false
set_option linter.unusedVariables false
namespace Go.Proofs.Ytpkjkhpnhcbciaa
open Go.RowKit Go.Shelf Go.Sort

/-- Cells with others laid over them from a place on. -/
def setL (c : Array Value) : Nat → List Value → Array Value
  | _, [] => c
  | o, v :: r => setL (c.setIfInBounds o v) (o + 1) r

theorem setL_size : ∀ (vs : List Value) (o : Nat) (c : Array Value), (setL c o vs).size = c.size
  | [], _, _ => rfl
  | v :: r, o, c => by rw [setL, setL_size r]; simp
theorem setL_get : ∀ (vs : List Value) (o : Nat) (c : Array Value) (k : Nat), k < c.size → (setL c o vs)[k]? = if o ≤ k ∧ k < o + vs.length then vs[k - o]? else c[k]?
  | [], o, c, k, _ => by simp [setL]; intro; omega
  | v :: r, o, c, k, hk => by
    rw [setL, setL_get r (o + 1) _ k (by simpa using hk)]
    by_cases h : o = k
    · subst h
      rw [if_neg (by omega), if_pos (by simp)]
      simp [hk]
    · by_cases h2 : o ≤ k ∧ k < o + (v :: r).length
      · rw [if_pos h2, if_pos (by simp at h2; omega)]
        obtain ⟨j, rfl⟩ : ∃ j, k = o + 1 + j := ⟨k - (o + 1), by omega⟩
        rw [show o + 1 + j - (o + 1) = j by omega, show o + 1 + j - o = j + 1 by omega]
        simp
      · rw [if_neg h2, if_neg (by simp at h2 ⊢; omega)]
        simp [Array.getElem?_setIfInBounds, h]

theorem heap_setCells {b : Nat} {t : TypeId} {f : Nat × Nat} : ∀ (vs : List Value) (o : Nat) (w : World) (c : Array Value), w.heap[b]? = some (.cells c t f) → (w.setCells b o vs).heap[b]? = some (.cells (setL c o vs) t f)
  | [], _, _, _, h => h
  | v :: r, o, w, c, h => heap_setCells r (o + 1) _ _ (setAt (j := o) h v)
theorem touch_setCells {S : Nat → Prop} {b : Nat} (h : S b) : ∀ (vs : List Value) (o : Nat) (w : World), Touch S w (w.setCells b o vs)
  | [], _, w => Touch.refl _ w
  | v :: r, o, w => (touch_set w ⟨b, o, none⟩ v h).trans (touch_setCells h r (o + 1) _)

end Go.Proofs.Ytpkjkhpnhcbciaa
