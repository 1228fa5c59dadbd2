/- Tail's law within a round, and for draws alone. Own work; no statement. -/
import Derived.Test.YtheaifgoleklpaaTail
import Derived.Test.YtheaifgoleklpaaQRound
set_option linter.unusedSimpArgs false
set_option linter.unusedVariables false
namespace Go.Proofs.Ytheaifgoleklpaa
open Go.RowKit Go.Sort

section
variable {F : Fence} {n : Nat} {P : Program} {ops : Array Oper} {C : World → Prop}

theorem headIn_sound_r {L : Array Bool → Act → Prop} {Q : Exit → Act → World → Prop} {g : Nat} (hnd : noDefer ops = true) (hL : ∀ d a w, C w → L d a → wpAnyIn F n P .any ops Q g d a w) :
    ∀ (f : Nat) (done : Array Bool) (a : Act) (w : World), C w → HeadIn F n P ops C L f done a → wpAnyIn F n P .any ops Q (f + g) done a w
  | 0, done, a, w, hw, h => by rw [Nat.zero_add]; exact hL done a w hw h
  | f + 1, done, a, w, hw, h => by
    rw [Nat.add_right_comm]
    exact ⟨fun e => absurd e h.1, fun i hi => wpOpIn_of_qOpIn_r hnd hw (fun a' w' hw' h' => headIn_sound_r hnd hL f _ a' w' hw' h') (h.2 i hi)⟩

theorem regionIn_tail_r {id : Nat} {Q : Exit → Act → World → Prop} {a : Act} {w : World} {l : List Oper} (m : Nat) (M : Array Bool) (hnd : noDefer l.toArray = true) (hm : P.follows .mixedOrders = true) (hB : tailOk l.toArray m M = true)
    (h : wpQuietIn F n P l.toArray (fun w' => ∃ k, w' = w.drewN k) (fun a' => ∀ w', (∃ k, w' = w.drewN k) → wpListIn F n P l.toArray Q (l.drop m) a' w') (l.take m) a) :
    (Code.region id l.toArray true).wpIn F n P Q a w := by
  simp only [tailOk, Bool.and_eq_true, decide_eq_true_eq] at hB
  obtain ⟨⟨⟨⟨hs, hmn⟩, hlex⟩, hok⟩, hseq⟩ := hB
  have hml : m ≤ l.length := by simpa using hmn
  have htl : (l.take m).length = m := by simp; omega
  have hdl : (l.drop m).length = l.toArray.size - m := by simp
  refine wpIn_region_any hm ?_
  have hC : (fun w' => ∃ k, w' = w.drewN k) { w with drawn := w.drawn + 1 } := ⟨1, rfl⟩
  have H := headIn_lex (F := F) (n := n) (M := M) (g := l.toArray.size - m) hs (l.take m) 0 (Array.replicate l.toArray.size false) a (fun j hj => by rw [htl] at hj; simp [hj]) (by rw [htl]; exact hlex) (by rw [htl]; exact hok) h
  rw [htl] at H
  have R := headIn_sound_r (Q := Q) (g := l.toArray.size - m) hnd (fun d a' w' hw' ⟨e, hq⟩ => by
    subst e
    have := anyIn_seq (F := F) (n := n) (P := P) (Q := Q) (ops := l.toArray) (l.drop m) m d a' w' (fun j => by simp [List.getElem?_drop]) (by rw [hdl]; exact hseq) (hq w' hw')
    rwa [hdl] at this) m _ a _ hC H
  rwa [show m + (l.toArray.size - m) = l.toArray.size by simp; omega] at R
theorem regionIn_quiet_r {id : Nat} {Q : Exit → Act → World → Prop} {a : Act} {w : World} {l : List Oper} (hnd : noDefer l.toArray = true) (hm : P.follows .mixedOrders = true) (hB : Region.lexB .any l.toArray = true)
    (h : wpQuietIn F n P l.toArray (fun w' => ∃ k, w' = w.drewN k) (fun a' => ∀ w', (∃ k, w' = w.drewN k) → Q .normal a' w') l a) : (Code.region id l.toArray true).wpIn F n P Q a w :=
  wpIn_region_quiet_r (C := fun w' => ∃ k, w' = w.drewN k) hnd hm hB ⟨1, rfl⟩ (by simpa using h)
end

end Go.Proofs.Ytheaifgoleklpaa
