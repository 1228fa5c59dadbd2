/- slices.Delete of a row's tail. Own work; no statement. -/
import Derived.Test.YtheaifgoleklpaaD3
set_option linter.unusedSimpArgs false
set_option linter.unusedVariables false
namespace Go.Proofs.Ytheaifgoleklpaa
open Go.RowKit Go.Shelf Go.Sort

/-- Cells with others laid over them from a place on. -/
def setL (c : Array Value) : Nat → List Value → Array Value
  | _, [] => c
  | o, v :: r => setL (c.setIfInBounds o v) (o + 1) r

theorem setL_size : ∀ (vs : List Value) (o : Nat) (c : Array Value), (setL c o vs).size = c.size
  | [], _, _ => rfl
  | v :: r, o, c => by rw [setL, setL_size r]; simp
theorem setL_get : ∀ (vs : List Value) (o : Nat) (c : Array Value) (k : Nat), k < c.size → (setL c o vs)[k]? = if o ≤ k ∧ k < o + vs.length then vs[k - o]? else c[k]?
  | [], o, c, k, _ => by simp [setL]; intro; omega
  | v :: r, o, c, k, hk => by
    rw [setL, setL_get r (o + 1) _ k (by simpa using hk)]
    by_cases h : o = k
    · subst h
      rw [if_neg (by omega), if_pos (by simp)]
      simp [hk]
    · by_cases h2 : o ≤ k ∧ k < o + (v :: r).length
      · rw [if_pos h2, if_pos (by simp at h2; omega)]
        obtain ⟨j, rfl⟩ : ∃ j, k = o + 1 + j := ⟨k - (o + 1), by omega⟩
        rw [show o + 1 + j - (o + 1) = j by omega, show o + 1 + j - o = j + 1 by omega]
        simp
      · rw [if_neg h2, if_neg (by simp at h2 ⊢; omega)]
        simp [Array.getElem?_setIfInBounds, h]

theorem heap_setCells {b : Nat} {t : TypeId} {f : Nat × Nat} : ∀ (vs : List Value) (o : Nat) (w : World) (c : Array Value), w.heap[b]? = some (.cells c t f) → (w.setCells b o vs).heap[b]? = some (.cells (setL c o vs) t f)
  | [], _, _, _, h => h
  | v :: r, o, w, c, h => heap_setCells r (o + 1) _ _ (setAt (j := o) h v)
theorem touch_setCells {S : Nat → Prop} {b : Nat} (h : S b) : ∀ (vs : List Value) (o : Nat) (w : World), Touch S w (w.setCells b o vs)
  | [], _, w => Touch.refl _ w
  | v :: r, o, w => (touch_set w ⟨b, o, none⟩ v h).trans (touch_setCells h r (o + 1) _)

theorem deleteTail_calls (B n cap : Nat) (a : Option Addr) (l : List ByteArray) (w : World) (hr : w.ownsRow B 9 1 (.slice a l.length cap) l.length (l.map Value.string)) (hn : n ≤ l.length) :
    Calls Try.prog 37 #[.slice a l.length cap, .int .i64 (n : Int), .int .i64 (l.length : Int)] w fun e w' => e = .returned (.slice a n cap) ∧ w'.ownsRow B 9 1 (.slice a n cap) n ((l.take n).map Value.string) ∧ Touch (fun k => (Value.slice a l.length cap).ownBlock = some k) w w' := by
  rcases hr.2 with ⟨e, h0⟩ | ⟨g, cap', cur, e, hb, hg, hnc, hcm, hcs, ht⟩
  · have el : l = [] := List.eq_nil_of_length_eq_zero h0
    subst el
    have en : n = 0 := by simpa using hn
    subst en
    refine (Try.slices_Delete_string_empty a cap w).mono ?_
    rintro e w' ⟨rfl, rfl⟩
    exact ⟨rfl, hr, Touch.refl _ _⟩
  · simp only [Value.slice.injEq, true_and] at e
    obtain ⟨rfl, rfl⟩ := e
    refine (Try.slices_Delete_string_cells g 0 l.length cap n l.length (fun i => l.getD i ByteArray.empty) w hnc (by unfold maxLen at hcm; exact hcm) hn (Nat.le_refl _) ?_ ?_).mono ?_
    · intro i hi
      rw [Nat.zero_add, hr.cellAt i (by omega)]
      simp [hi]
    · intro j _
      exact frozenAt hg _
    · rintro e w' ⟨rfl, q, rfl⟩
      refine ⟨by rw [show l.length - (l.length - n) = n by omega], ⟨by simp; omega, .inr ⟨g, cap, _, rfl, hb, heap_setCells _ 0 (w.drewN q) cur hg, by omega, hcm, by rw [setL_size]; exact hcs, ?_⟩⟩, (touch_new (drewsB w q)).trans (touch_setCells (S := fun k => (Value.slice (some ⟨g, 0, none⟩) l.length cap).ownBlock = some k) rfl _ _ _)⟩
      apply List.ext_getElem?
      intro k
      by_cases hk : k < n
      · have hkc : k < cur.size := by omega
        rw [List.getElem?_take_of_lt (by omega), Array.getElem?_toList, setL_get _ _ _ _ hkc, if_pos (by simp [Lib.strsOf]; omega)]
        have hkl : k < l.length := by omega
        rw [Nat.sub_zero, List.map_append, List.map_append, List.append_assoc, List.getElem?_append_left (by simp [Lib.strsOf]; omega)]
        simp [Lib.strsOf, hk, hkl, encStr]
      · rw [List.getElem?_eq_none (by simp; omega), List.getElem?_eq_none (by simp; omega)]

end Go.Proofs.Ytheaifgoleklpaa
