/- Own work: the parts Base, W1, W2, W3, W4, W5, W6 of the proof, laid together. -/
import Derived.Test.YtndhkbmgpjjepaaDoorRows
import Derived.WalkKit
import Derived.WalkSpells
import Derived.Laws.CopyOwn
import Derived.Deep.QuietTactic
import Derived.BigQuiet
import Derived.Deep.RegionWith
import Derived.WalkSmall
/- Plain laws on slices of numbers in memory: what a slice reads as, and that it reads so in every later world. Own work; no statement. -/
set_option linter.unusedSimpArgs false
set_option linter.unusedVariables false
namespace Go.Proofs.YtndhkbmgpjjepaaDoor
open Go.RowKit

theorem cell_one_at {W : World} {x : Value} {e : TypeId} {g : Nat} (h : g = W.heap.size) : ∀ j u, [x][j]? = some u → (W.alloc (.cells #[x] e)).cell? ((⟨g, 0, none⟩ : Addr).add j) = some u := by
  subst h
  exact cell_one_new W x e

theorem hide {p : Prop} (h : p) : Hid p := h

/-- In the world w the slice v reads as the numbers l. -/
def IsNums (k : IntKind) (w : World) (v : Value) (l : List Int) : Prop :=
  ∃ a cap, v = .slice a l.length cap ∧ l.length ≤ cap ∧ ∀ t, t < l.length → ∃ b o, a = some ⟨b, o, none⟩ ∧ w.cell? ⟨b, o + t, none⟩ = some (.int k (l.getD t 0))

theorem IsNums.nil (k : IntKind) (w : World) (a : Option Addr) (cap : Nat) : IsNums k w (.slice a 0 cap) [] := ⟨a, cap, rfl, Nat.zero_le _, fun t h => absurd h (Nat.not_lt_zero t)⟩

theorem IsNums.cases {k : IntKind} {w : World} {v : Value} {l : List Int} (h : IsNums k w v l) :
    (l = [] ∧ ∃ a cap, v = .slice a 0 cap) ∨ (∃ b o cap, v = .slice (some ⟨b, o, none⟩) l.length cap ∧ 0 < l.length ∧ l.length ≤ cap ∧ b < w.heap.size ∧ ∀ t, t < l.length → w.cell? ⟨b, o + t, none⟩ = some (.int k (l.getD t 0))) := by
  obtain ⟨a, cap, rfl, hc, h⟩ := h
  cases l with
  | nil => exact .inl ⟨rfl, a, cap, rfl⟩
  | cons x xs =>
    refine .inr ?_
    obtain ⟨b, o, rfl, h0⟩ := h 0 (by simp)
    refine ⟨b, o, cap, rfl, by simp, hc, World.block_lt_of_cell? w _ h0, fun t ht => ?_⟩
    obtain ⟨b', o', e, h'⟩ := h t ht
    cases e
    exact h'

theorem IsNums.below {k : IntKind} {w w' : World} {v : Value} {l : List Int} (h : IsNums k w v l) (hb : Below w.heap.size w w') : IsNums k w' v l := by
  obtain ⟨a, cap, rfl, hc, h⟩ := h
  refine ⟨a, cap, rfl, hc, fun t ht => ?_⟩
  obtain ⟨b, o, rfl, h'⟩ := h t ht
  exact ⟨b, o, rfl, (hb.cell (p := ⟨b, o + t, none⟩) (World.block_lt_of_cell? w _ h')).trans h'⟩

theorem IsNums.of_row {k : IntKind} {w : World} {base : Nat} {e : TypeId} {v : Value} {n : Nat} {l : List Int} (h : w.ownsRow base e 1 v n (l.map (Value.int k))) : IsNums k w v l := by
  have hn : l.length = n := by simpa using h.1
  rcases h.2 with ⟨rfl, rfl⟩ | ⟨g, cap, cur, rfl, hb, hg, hnc, hcm, hcs, ht⟩
  · obtain rfl : l = [] := List.eq_nil_of_length_eq_zero hn
    exact IsNums.nil _ _ _ _
  · subst hn
    refine ⟨_, _, rfl, hnc, fun t ht => ⟨g, 0, rfl, ?_⟩⟩
    rw [Nat.zero_add, h.cellAt t (by omega)]
    simp [ht]

/-- A row that is owned up to its end, as the block that it is; and back. -/
theorem row_full {w : World} {base g n : Nat} {e : TypeId} {xs : List Value} (h : w.ownsRow base e 1 (.slice (some ⟨g, 0, none⟩) n n) n xs) : base ≤ g ∧ w.heap[g]? = some (.cells xs.toArray e (0, 0)) := by
  rcases h.2 with ⟨h', _⟩ | ⟨g', cap', cur, h', hb, hg, hnc, hcm, hcs, ht⟩
  · simp at h'
  · simp only [Value.slice.injEq, Option.some.injEq, Addr.mk.injEq, and_true, true_and] at h'
    obtain ⟨rfl, rfl⟩ := h'
    refine ⟨hb, ?_⟩
    rw [hg, ← ht, List.take_of_length_le (by simp; omega)]
theorem full_row {w : World} {base g n : Nat} {e : TypeId} {xs : List Value} (hb : base ≤ g) (hm : n ≤ maxLen) (hl : xs.length = n) (hg : w.heap[g]? = some (.cells xs.toArray e (0, 0))) : w.ownsRow base e 1 (.slice (some ⟨g, 0, none⟩) n n) n xs :=
  ⟨by omega, .inr ⟨g, n, xs.toArray, rfl, hb, hg, Nat.le_refl _, hm, by simp [hl], by simp [← hl]⟩⟩

/-- The number of site i, as Get tells it. -/
def geti (l : List Int) (i : Int) : Int := if i < 0 ∨ (l.length : Int) ≤ i then 0 else l.getD i.toNat 0

theorem geti_nat (l : List Int) (i : Nat) : geti l i = l.getD i 0 := by
  unfold geti
  split
  · rename_i h
    rw [List.getD, List.getElem?_eq_none (by omega)]
    rfl
  · simp

end Go.Proofs.YtndhkbmgpjjepaaDoor

/- The walks of the small functions of vec: each call by its contract. Own work; no statement. -/
set_option linter.unusedSimpArgs false
set_option linter.unusedVariables false
namespace Go.Proofs.YtndhkbmgpjjepaaDoor
open Go.RowKit
theorem Tryd.info3 : (Tryd.prog.info? 3).map (fun i => (i.zero, i.size, i.bytes)) = some (some (.int .i64 0), 1, 8) := by kernel_rfl
theorem Tryd.isize3 : (Tryd.prog.info? 3).map (·.size) = some 1 := by kernel_rfl

/-- v with noughts up to n. -/
def stretchL (l : List Int) (n : Nat) : List Int := l ++ List.replicate (n - l.length) 0

end Go.Proofs.YtndhkbmgpjjepaaDoor

/- The walks of vec's Join, Meet, Covers, Same, With, Check, written: each call by its contract. Own work; no statement. -/
set_option linter.unusedSimpArgs false
set_option linter.unusedVariables false
namespace Go.Proofs.YtndhkbmgpjjepaaDoor
open Go.RowKit

theorem ret_int {k : IntKind} {a b : Int} (h : a = b) : Ending.returned (.int k a) = .returned (.int k b) := by rw [h]

/-- The tests that Covers and Same make of a site. -/
def covB (x y : Int) : Bool := decide (y ≤ x)
def eqB (x y : Int) : Bool := x == y

/-- What f takes of each site that a or b has. -/
def bySiteL (f : Int → Int → Int) (a b : List Int) : List Int := (List.range (max a.length b.length)).map fun i => f (a.getD i 0) (b.getD i 0)
/-- Whether f is true of each site that a or b has. -/
def everyB (f : Int → Int → Bool) (a b : List Int) : Bool := (List.range (max a.length b.length)).all fun i => f (a.getD i 0) (b.getD i 0)

theorem bySiteL_length (f : Int → Int → Int) (a b : List Int) : (bySiteL f a b).length = max a.length b.length := by simp [bySiteL]

/-- The first k of them are there, the others are still nought. -/
def partL (f : Int → Int → Int) (a b : List Int) (k : Nat) : List Int := (List.range (max a.length b.length)).map fun i => if i < k then f (a.getD i 0) (b.getD i 0) else 0
theorem partL_zero (f : Int → Int → Int) (a b : List Int) : partL f a b 0 = List.replicate (max a.length b.length) 0 := by
  apply List.ext_getElem <;> simp [partL]
theorem partL_all (f : Int → Int → Int) (a b : List Int) : partL f a b (max a.length b.length) = bySiteL f a b := by
  apply List.ext_getElem
  · simp [partL, bySiteL]
  · intro i h1 h2
    have h : i < max a.length b.length := by simpa [partL] using h1
    simp only [partL, bySiteL, List.getElem_map, List.getElem_range]
    rw [if_pos h]
theorem partL_succ (f : Int → Int → Int) (a b : List Int) (k : Nat) (h : k < max a.length b.length) : (partL f a b k).set k (f (a.getD k 0) (b.getD k 0)) = partL f a b (k + 1) := by
  apply List.ext_getElem
  · simp [partL]
  · intro i h1 h2
    simp only [partL, List.getElem_set, List.getElem_map, List.getElem_range]
    by_cases e : k = i
    · subst e; simp
    · rw [if_neg e]
      by_cases g : i < k
      · rw [if_pos g, if_pos (by omega)]
      · rw [if_neg g, if_neg (by omega)]
theorem everyB_no (f : Int → Int → Bool) (a b : List Int) (k : Nat) (h : k < max a.length b.length) (hf : f (a.getD k 0) (b.getD k 0) = false) : everyB f a b = false := by
  unfold everyB
  rw [List.all_eq_false]
  exact ⟨k, by simpa using h, by rw [hf]; simp⟩
theorem everyB_yes (f : Int → Int → Bool) (a b : List Int) (h : ∀ i, i < max a.length b.length → f (a.getD i 0) (b.getD i 0) = true) : everyB f a b = true := by
  unfold everyB
  rw [List.all_eq_true]
  intro i hi
  exact h i (by simpa using hi)


end Go.Proofs.YtndhkbmgpjjepaaDoor

/- The walks of vec's Covers, Same, With, Check, written, and of the laws' Ints, few, up. Own work; no statement. -/
set_option linter.unusedSimpArgs false
set_option linter.unusedVariables false
namespace Go.Proofs.YtndhkbmgpjjepaaDoor
open Go.RowKit
end Go.Proofs.YtndhkbmgpjjepaaDoor

/- The walks of vec's With, Check, written, and of the laws' few, Ints, up. Own work; no statement. -/
set_option linter.unusedSimpArgs false
set_option linter.unusedVariables false
namespace Go.Proofs.YtndhkbmgpjjepaaDoor
open Go.RowKit

/-- v with n at site i. -/
def withL (l : List Int) (i n : Int) : List Int := if i < 0 ∨ 63 < i then l else (stretchL l (max l.length (i.toNat + 1))).set i.toNat n

theorem stretchL_self (l : List Int) : stretchL l l.length = l := by simp [stretchL]
theorem stretchL_length (l : List Int) (n : Nat) (h : l.length ≤ n) : (stretchL l n).length = n := by simp [stretchL]; omega

end Go.Proofs.YtndhkbmgpjjepaaDoor

/- The walks of vec's Check, written, and of the laws' few, Ints, up. Own work; no statement. -/
set_option linter.unusedSimpArgs false
set_option linter.unusedVariables false
namespace Go.Proofs.YtndhkbmgpjjepaaDoor
open Go.RowKit

/-- The first number that may not be. -/
def checkN : List Int → Int
  | [] => 0
  | n :: r => if n < 0 then 1 else if 1048576 < n then 4 else checkN r
/-- As what Check tells of l: the number of the error. -/
def checkL (l : List Int) (sites : Int) : Int := if sites < 1 ∨ 8 < sites then 1 else if sites < (l.length : Int) then 4 else checkN l

theorem checkN_drop (l : List Int) (k : Nat) (h : k < l.length) : checkN (l.drop k) = if l.getD k 0 < 0 then 1 else if 1048576 < l.getD k 0 then 4 else checkN (l.drop (k + 1)) := by
  rw [List.drop_eq_getElem_cons h]
  simp [checkN, List.getD, h]

/-- How many of l's numbers a text has. -/
def writtenL (l : List Int) : Nat := (l.reverse.dropWhile (· == 0)).length
theorem writtenL_le (l : List Int) : writtenL l ≤ l.length := by
  unfold writtenL
  have := (List.dropWhile_suffix (· == (0 : Int)) (l := l.reverse)).length_le
  simpa using this
theorem writtenL_snoc_zero (l : List Int) : writtenL (l ++ [0]) = writtenL l := by simp [writtenL]
theorem writtenL_snoc (l : List Int) (x : Int) (h : ¬ x = 0) : writtenL (l ++ [x]) = l.length + 1 := by simp [writtenL, h]
theorem take_snoc_getD (l : List Int) (k : Nat) (h : k < l.length) : l.take (k + 1) = l.take k ++ [l.getD k 0] := by
  rw [List.take_succ_eq_append_getElem h]
  simp [List.getD, h]

theorem below_draws {B : Nat} {w : World} (n : Nat) : Below B w (w.drewN n) := ⟨rfl, rfl, rfl, Nat.le_refl _, fun _ _ => rfl⟩

set_option maxHeartbeats 1000000 in
theorem ints_calls (va vb : Value) (a b : List Int) (w : World) (ha : IsNums .i64 w va a) (hb : IsNums .i64 w vb b) (hla : a.length ≤ 1099511627776) (hlb : b.length ≤ 1099511627776) :
    Calls Tryd.prog 23 #[va, vb] w fun e w' => e = .returned (.bool (decide (a = b))) ∧ ∃ n, w' = w.drewN n := by
  by_cases hlen : a.length = b.length
  · rcases ha.cases with ⟨rfl, a1, capa, rfl⟩ | ⟨ba, oa, capa, rfl, hpa, hca, hba, hcella⟩
    · obtain rfl : b = [] := List.eq_nil_of_length_eq_zero hlen.symm
      obtain ⟨b1, capb, rfl, -, -⟩ := hb
      go_enter Tryd.func23, Tryd.ntmps23
      go_wp2
      refine wp_loop_rounds 1 ?_
      rw [rounds_succ]
      go_wp2
      go_ret
      exact ⟨rfl, 0, rfl⟩
    · rcases hb.cases with ⟨rfl, b1, capb, rfl⟩ | ⟨bb, ob, capb, rfl, hpb, hcb, hbb, hcellb⟩
      · exact absurd hlen (by simp; intro e; simp [e] at hpa)
      · have Hla := hide hcella
        have Hlb := hide hcellb
        have Hlen := hide hlen
        have hl1 : ((a.length : Int) != (b.length : Int)) = false := by simp [hlen]
        clear ha hb hcella hcellb hlen
        go_enter Tryd.func23, Tryd.ntmps23
        go_wp2
        go_loopw [5] (fun i wr => ∃ k : Nat, i = .int .i64 (k : Int) ∧ k ≤ a.length ∧ (∀ j, j < k → a.getD j 0 = b.getD j 0) ∧ ∃ n, wr = w.drewN n) (fun i _ => a.length - (intOf i).toNat)
        case atStart => exact ⟨0, rfl, Nat.zero_le _, fun j h => absurd h (Nat.not_lt_zero j), 0, rfl⟩
        case round =>
          obtain ⟨k, rfl, hkn, hall, n, rfl⟩ := hrel
          replace hall := hide hall
          by_cases hk : k < a.length
          · have hlt : (k : Int) < (a.length : Int) := by omega
            have hltb : (k : Int) < (b.length : Int) := by have := Hlen.out; omega
            have hcl := Hla.out k hk
            have hcr := Hlb.out k (by omega)
            obtain ⟨x, hx⟩ : ∃ x, a.getD k 0 = x := ⟨_, rfl⟩
            obtain ⟨y, hy⟩ : ∃ y, b.getD k 0 = y := ⟨_, rfl⟩
            rw [hx] at hcl
            rw [hy] at hcr
            replace hx := hide hx
            replace hy := hide hy
            clear hl1
            go_wp2
            go_quiet (fail)
            cases hxy : (x != y)
            · have exy := hide (show x = y by simpa using hxy)
              go_wp2
              refine ⟨⟨k + 1, by go_num, by omega, fun j hj => ?_, n + nq, ?_⟩, by simp [intOf]; omega⟩
              · by_cases e : j = k
                · rw [e, hx.out, hy.out, exy.out]
                · exact hall.out j (by omega)
              · simp [World.drewN, Nat.add_assoc]
            · have exy := hide (show ¬ x = y by simpa using hxy)
              go_wp2
              go_ret
              refine ⟨?_, n + nq, by simp [World.drewN, Nat.add_assoc]⟩
              have e : ¬ a = b := by
                intro e
                apply exy.out
                rw [← hx.out, ← hy.out, e]
              simp [e]
          · go_wp2
            go_ret
            refine ⟨?_, n, rfl⟩
            have e : a = b := by
              apply List.ext_getElem Hlen.out
              intro i h1 h2
              have := hall.out i (by omega)
              simpa [List.getD, h1, h2] using this
            simp [e]
  · have hl1 : ((a.length : Int) != (b.length : Int)) = true := by simp; omega
    have e : decide (a = b) = false := by simp; intro e; exact hlen (by rw [e])
    rw [e]
    obtain ⟨a1, capa, rfl, -, -⟩ := ha
    obtain ⟨b1, capb, rfl, -, -⟩ := hb
    clear e hlen
    go_enter Tryd.func23, Tryd.ntmps23
    go_wp2
    go_ret
    exact ⟨rfl, 0, rfl⟩

end Go.Proofs.YtndhkbmgpjjepaaDoor

/- The walk of the laws' up: numbers as a vector. Own work; no statement. -/
set_option linter.unusedSimpArgs false
set_option linter.unusedVariables false
namespace Go.Proofs.YtndhkbmgpjjepaaDoor
open Go.RowKit

theorem wrap64_small (x : Int) (h0 : 0 ≤ x) (h1 : x < 4294967296) : wrap64 x = x := by unfold wrap64; omega

end Go.Proofs.YtndhkbmgpjjepaaDoor
