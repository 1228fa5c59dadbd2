/- rec's Of: the sequence that it answers. Own work; no statement. -/
import Derived.Test.YtompaldhnbcikaaR9
import Derived.Test.YtompaldhnbcikaaRange2
import Derived.Test.YtompaldhnbcikaaTail
import Derived.Stop.RegionWithIn
import Derived.Outline
set_option linter.unusedSimpArgs false
set_option linter.unusedVariables false
namespace Go.Proofs.Ytompaldhnbcikaa
open Go.RowKit Go.Shelf Go.Sort

attribute [local go_sem] Oper.semAt_some

/-- The blocks from lo up to hi are as they were. -/
def KeepsSpan (lo hi : Nat) (W W' : World) : Prop := ∀ k, lo ≤ k → k < hi → W'.heap[k]? = W.heap[k]?
theorem keepsSpan_t {lo hi : Nat} {A B C : World} (h : KeepsSpan lo hi A B) (k : KeepsSpan lo hi B C) : KeepsSpan lo hi A C := fun i h1 h2 => (k i h1 h2).trans (h i h1 h2)
theorem keepsSpan_b {lo hi n : Nat} (hn : hi ≤ n) (W : World) (l : Nat) (o o' : Obj) (hl : n ≤ l) (_ : W.heap[l]? = some o) (_ : o.isCells = false) (_ : o.isWalk = false) : KeepsSpan lo hi W (W.putObj l o') := by
  intro k _ h2
  unfold World.putObj
  simp only [Array.getElem?_setIfInBounds]
  rw [if_neg (by omega)]
theorem KeepsSpan.of_below {lo hi : Nat} {W W' : World} (h : Below W.heap.size W W') (hh : hi ≤ W.heap.size) : KeepsSpan lo hi W W' := fun k _ h2 => h.block k (by omega)

theorem KeepsSpan.size {lo hi : Nat} {W W' : World} (h : KeepsSpan lo hi W W') (hh : hi ≤ W.heap.size) (hl : lo < hi) : hi ≤ W'.heap.size := by
  have e := h (hi - 1) (by omega) (by omega)
  rw [Array.getElem?_eq_getElem (show hi - 1 < W.heap.size by omega)] at e
  have := (Array.getElem?_eq_some_iff.1 e).1
  omega

theorem flat6 : ∀ (pl : List Pl) (k j : Nat) (h : k < pl.length), j < 6 → (pl.flatMap Pl.cells)[k * 6 + j]? = (pl[k]).cells[j]?
  | [], _, _, h, _ => absurd h (by simp)
  | p :: pl, 0, j, _, hj => by
    rw [List.flatMap_cons, List.getElem?_append_left (by simp [Pl.cells]; omega)]
    simp
  | p :: pl, k + 1, j, h, hj => by
    rw [List.flatMap_cons, List.getElem?_append_right (by simp [Pl.cells]; omega)]
    have e : (k + 1) * 6 + j - p.cells.length = k * 6 + j := by simp [Pl.cells]; omega
    rw [e, flat6 pl k j (by simpa using h) hj]
    simp

/-- What the sequence hands over. -/
def encPl (x : Pl) : Array Value := #[.int .i64 x.i, .agg #[.int .i64 x.r.site, .int .i64 x.r.seq, x.vd, .string x.r.key, .string x.r.val]]
/-- From A the sequence has come to B: of what lay there nothing has turned, and x's numbers lie in memory of their own. -/
def GivesPl (x : Pl) (A B : World) : Prop := Below A.heap.size A B ∧ B.ownsRow A.heap.size 3 1 x.vd x.r.dep.length (x.r.dep.map (Value.int .i64)) ∧ x.r.dep.length ≤ 17592186044416

theorem yield_bool {e : Ending} {A B : Prop} (h : (e = .returned (.bool true) ∧ A) ∨ (e = .returned (.bool false) ∧ B)) : ∃ b, e = .returned (.bool b) ∧ ((b = true ∧ A) ∨ (b = false ∧ B)) := by
  rcases h with ⟨rfl, h⟩ | ⟨rfl, h⟩
  · exact ⟨true, rfl, .inl ⟨rfl, h⟩⟩
  · exact ⟨false, rfl, .inr ⟨rfl, h⟩⟩

end Go.Proofs.Ytompaldhnbcikaa
