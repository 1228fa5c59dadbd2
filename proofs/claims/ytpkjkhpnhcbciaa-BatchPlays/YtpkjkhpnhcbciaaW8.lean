/- vec's All: the range over a vector's sites, by its contract; Sum, which goes over it. Own work; no statement. -/
import Derived.RangeFuncNested
import Derived.RangeFuncBound
import Derived.RangeFuncCalls
import Derived.RangeFuncLeaves
import Derived.Shelf.Abstract
import Derived.Shelf.RegionOpen
import Derived.OwnWalkIn
import Derived.TacticsInMore
import Derived.LoopNIn
import Derived.LoopIn
import Derived.Test.YtpkjkhpnhcbciaaW7
set_option linter.unusedSimpArgs false
set_option linter.unusedVariables false
namespace Go.Proofs.Ytpkjkhpnhcbciaa
open Go.RowKit Go.Shelf

attribute [local go_sem] Oper.semAt_some

/-- The sites below k that are not nothing, with their numbers. -/
def pairsTo (l : List Int) : Nat → List (Int × Int)
  | 0 => []
  | k + 1 => pairsTo l k ++ (if l.getD k 0 = 0 then [] else [((k : Int), l.getD k 0)])

theorem pairsTo_length (l : List Int) : ∀ k, (pairsTo l k).length ≤ k
  | 0 => by simp [pairsTo]
  | k + 1 => by
    have := pairsTo_length l k
    simp only [pairsTo, List.length_append]
    split <;> simp <;> omega

theorem pairsTo_skip (l : List Int) (k : Nat) (x : Int) (hx : l.getD k 0 = x) (h : x = 0) : pairsTo l (k + 1) = pairsTo l k := by simp only [pairsTo]; rw [if_pos (hx.trans h)]; simp
theorem pairsTo_take (l : List Int) (k : Nat) (x : Int) (hx : l.getD k 0 = x) (h : ¬ x = 0) : pairsTo l (k + 1) = pairsTo l k ++ [((k : Int), x)] := by simp only [pairsTo]; rw [if_neg (by rw [hx]; exact h), hx]

/-- Bs is the box of what All goes over: a row of its own, g, with the numbers l. -/
def IsAll (w : World) (Bs g : Nat) (l : List Int) : Prop :=
  g < w.heap.size ∧ Bs < w.heap.size ∧ w.cell? ⟨Bs, 0, none⟩ = some (.slice (some ⟨g, 0, none⟩) l.length l.length) ∧ ∀ t, t < l.length → w.cell? ⟨g, t, none⟩ = some (.int .i64 (l.getD t 0))

theorem IsAll.below {w w' : World} {Bs g : Nat} {l : List Int} (h : IsAll w Bs g l) (hb : Below w.heap.size w w') : IsAll w' Bs g l :=
  ⟨Nat.lt_of_lt_of_le h.1 hb.size, Nat.lt_of_lt_of_le h.2.1 hb.size, (hb.cell (p := ⟨Bs, 0, none⟩) h.2.1).trans h.2.2.1, fun t ht => (hb.cell (p := ⟨g, t, none⟩) h.1).trans (h.2.2.2 t ht)⟩

/-- What a round of a loop over All must keep: the row of the numbers. -/
def KeepsRow (g : Nat) (W W' : World) : Prop := W'.heap[g]? = W.heap[g]?
theorem keepsRow_t {g : Nat} {A B C : World} (h : KeepsRow g A B) (k : KeepsRow g B C) : KeepsRow g A C := Eq.trans k h
theorem keepsRow_b {g n : Nat} (hg : g < n) (W : World) (l : Nat) (o o' : Obj) (hl : n ≤ l) (_ : W.heap[l]? = some o) (_ : o.isCells = false) (_ : o.isWalk = false) : KeepsRow g W (W.putObj l o') := by
  unfold KeepsRow World.putObj
  simp only [Array.getElem?_setIfInBounds]
  rw [if_neg (by omega)]

theorem KeepsRow.cell {g t : Nat} {W W' : World} (h : KeepsRow g W W') : W'.cell? ⟨g, t, none⟩ = W.cell? ⟨g, t, none⟩ := World.cell?_of_block (w := W) (a := ⟨g, t, none⟩) h

/-- The numbers together, as an int adds them. -/
def sumW (ps : List (Int × Int)) : Int := ps.foldl (fun s p => wrap64 (s + p.2)) 0
theorem sumW_snoc (ps : List (Int × Int)) (x : Int × Int) : sumW (ps ++ [x]) = wrap64 (sumW ps + x.2) := by simp [sumW]

end Go.Proofs.Ytpkjkhpnhcbciaa
