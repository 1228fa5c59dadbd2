/- Plain laws on slices of numbers in memory: what a slice reads as, and that it reads so in every later world. Own work; no statement. -/
import Derived.Test.YtpkjkhpnhcbciaaRows
import Derived.WalkKit
import Derived.WalkSpells
set_option linter.unusedSimpArgs false
set_option linter.unusedVariables false
namespace Go.Proofs.Ytpkjkhpnhcbciaa
open Go.RowKit

theorem cell_one_at {W : World} {x : Value} {e : TypeId} {g : Nat} (h : g = W.heap.size) : ∀ j u, [x][j]? = some u → (W.alloc (.cells #[x] e)).cell? ((⟨g, 0, none⟩ : Addr).add j) = some u := by
  subst h
  exact cell_one_new W x e

theorem hide {p : Prop} (h : p) : Hid p := h

/-- In the world w the slice v reads as the numbers l. -/
def IsNums (k : IntKind) (w : World) (v : Value) (l : List Int) : Prop :=
  ∃ a cap, v = .slice a l.length cap ∧ l.length ≤ cap ∧ ∀ t, t < l.length → ∃ b o, a = some ⟨b, o, none⟩ ∧ w.cell? ⟨b, o + t, none⟩ = some (.int k (l.getD t 0))

theorem IsNums.nil (k : IntKind) (w : World) (a : Option Addr) (cap : Nat) : IsNums k w (.slice a 0 cap) [] := ⟨a, cap, rfl, Nat.zero_le _, fun t h => absurd h (Nat.not_lt_zero t)⟩

theorem IsNums.cases {k : IntKind} {w : World} {v : Value} {l : List Int} (h : IsNums k w v l) :
    (l = [] ∧ ∃ a cap, v = .slice a 0 cap) ∨ (∃ b o cap, v = .slice (some ⟨b, o, none⟩) l.length cap ∧ 0 < l.length ∧ l.length ≤ cap ∧ b < w.heap.size ∧ ∀ t, t < l.length → w.cell? ⟨b, o + t, none⟩ = some (.int k (l.getD t 0))) := by
  obtain ⟨a, cap, rfl, hc, h⟩ := h
  cases l with
  | nil => exact .inl ⟨rfl, a, cap, rfl⟩
  | cons x xs =>
    refine .inr ?_
    obtain ⟨b, o, rfl, h0⟩ := h 0 (by simp)
    refine ⟨b, o, cap, rfl, by simp, hc, World.block_lt_of_cell? w _ h0, fun t ht => ?_⟩
    obtain ⟨b', o', e, h'⟩ := h t ht
    cases e
    exact h'

theorem IsNums.below {k : IntKind} {w w' : World} {v : Value} {l : List Int} (h : IsNums k w v l) (hb : Below w.heap.size w w') : IsNums k w' v l := by
  obtain ⟨a, cap, rfl, hc, h⟩ := h
  refine ⟨a, cap, rfl, hc, fun t ht => ?_⟩
  obtain ⟨b, o, rfl, h'⟩ := h t ht
  exact ⟨b, o, rfl, (hb.cell (p := ⟨b, o + t, none⟩) (World.block_lt_of_cell? w _ h')).trans h'⟩

theorem IsNums.of_row {k : IntKind} {w : World} {base : Nat} {e : TypeId} {v : Value} {n : Nat} {l : List Int} (h : w.ownsRow base e 1 v n (l.map (Value.int k))) : IsNums k w v l := by
  have hn : l.length = n := by simpa using h.1
  rcases h.2 with ⟨rfl, rfl⟩ | ⟨g, cap, cur, rfl, hb, hg, hnc, hcm, hcs, ht⟩
  · obtain rfl : l = [] := List.eq_nil_of_length_eq_zero hn
    exact IsNums.nil _ _ _ _
  · subst hn
    refine ⟨_, _, rfl, hnc, fun t ht => ⟨g, 0, rfl, ?_⟩⟩
    rw [Nat.zero_add, h.cellAt t (by omega)]
    simp [ht]

/-- A row that is owned up to its end, as the block that it is; and back. -/
theorem row_full {w : World} {base g n : Nat} {e : TypeId} {xs : List Value} (h : w.ownsRow base e 1 (.slice (some ⟨g, 0, none⟩) n n) n xs) : base ≤ g ∧ w.heap[g]? = some (.cells xs.toArray e (0, 0)) := by
  rcases h.2 with ⟨h', _⟩ | ⟨g', cap', cur, h', hb, hg, hnc, hcm, hcs, ht⟩
  · simp at h'
  · simp only [Value.slice.injEq, Option.some.injEq, Addr.mk.injEq, and_true, true_and] at h'
    obtain ⟨rfl, rfl⟩ := h'
    refine ⟨hb, ?_⟩
    rw [hg, ← ht, List.take_of_length_le (by simp; omega)]
theorem full_row {w : World} {base g n : Nat} {e : TypeId} {xs : List Value} (hb : base ≤ g) (hm : n ≤ maxLen) (hl : xs.length = n) (hg : w.heap[g]? = some (.cells xs.toArray e (0, 0))) : w.ownsRow base e 1 (.slice (some ⟨g, 0, none⟩) n n) n xs :=
  ⟨by omega, .inr ⟨g, n, xs.toArray, rfl, hb, hg, Nat.le_refl _, hm, by simp [hl], by simp [← hl]⟩⟩

/-- The number of site i, as Get tells it. -/
def geti (l : List Int) (i : Int) : Int := if i < 0 ∨ (l.length : Int) ≤ i then 0 else l.getD i.toNat 0

theorem geti_nat (l : List Int) (i : Nat) : geti l i = l.getD i 0 := by
  unfold geti
  split
  · rename_i h
    rw [List.getD, List.getElem?_eq_none (by omega)]
    rfl
  · simp

end Go.Proofs.Ytpkjkhpnhcbciaa
