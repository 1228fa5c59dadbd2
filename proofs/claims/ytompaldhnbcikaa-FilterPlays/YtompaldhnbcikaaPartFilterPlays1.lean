/- Own work: the parts Base, FrameP, W1, W2, W3, W4, W5, W6 of the proof, laid together. -/
import Derived.Test.YtompaldhnbcikaaRows
import Derived.WalkKit
import Derived.WalkSpells
import Derived.ProofKit
import Derived.OpenShut
import Derived.ShutString
import Derived.ChangeOld
import Derived.Deep.DeepHandedRow
import Derived.Laws.CopyOwn
import Derived.Deep.QuietTactic
import Derived.BigQuiet
import Derived.Deep.RegionWith
import Derived.WalkSmall
/- Plain laws on slices of numbers in memory: what a slice reads as, and that it reads so in every later world. Own work; no statement. -/
set_option linter.unusedSimpArgs false
set_option linter.unusedVariables false
namespace Go.Proofs.Ytompaldhnbcikaa
open Go.RowKit

theorem cell_one_at {W : World} {x : Value} {e : TypeId} {g : Nat} (h : g = W.heap.size) : ∀ j u, [x][j]? = some u → (W.alloc (.cells #[x] e)).cell? ((⟨g, 0, none⟩ : Addr).add j) = some u := by
  subst h
  exact cell_one_new W x e

theorem hide {p : Prop} (h : p) : Hid p := h

/-- In the world w the slice v reads as the numbers l. -/
def IsNums (k : IntKind) (w : World) (v : Value) (l : List Int) : Prop :=
  ∃ a cap, v = .slice a l.length cap ∧ l.length ≤ cap ∧ ∀ t, t < l.length → ∃ b o, a = some ⟨b, o, none⟩ ∧ w.cell? ⟨b, o + t, none⟩ = some (.int k (l.getD t 0))

theorem IsNums.nil (k : IntKind) (w : World) (a : Option Addr) (cap : Nat) : IsNums k w (.slice a 0 cap) [] := ⟨a, cap, rfl, Nat.zero_le _, fun t h => absurd h (Nat.not_lt_zero t)⟩

theorem IsNums.cases {k : IntKind} {w : World} {v : Value} {l : List Int} (h : IsNums k w v l) :
    (l = [] ∧ ∃ a cap, v = .slice a 0 cap) ∨ (∃ b o cap, v = .slice (some ⟨b, o, none⟩) l.length cap ∧ 0 < l.length ∧ l.length ≤ cap ∧ b < w.heap.size ∧ ∀ t, t < l.length → w.cell? ⟨b, o + t, none⟩ = some (.int k (l.getD t 0))) := by
  obtain ⟨a, cap, rfl, hc, h⟩ := h
  cases l with
  | nil => exact .inl ⟨rfl, a, cap, rfl⟩
  | cons x xs =>
    refine .inr ?_
    obtain ⟨b, o, rfl, h0⟩ := h 0 (by simp)
    refine ⟨b, o, cap, rfl, by simp, hc, World.block_lt_of_cell? w _ h0, fun t ht => ?_⟩
    obtain ⟨b', o', e, h'⟩ := h t ht
    cases e
    exact h'

theorem IsNums.below {k : IntKind} {w w' : World} {v : Value} {l : List Int} (h : IsNums k w v l) (hb : Below w.heap.size w w') : IsNums k w' v l := by
  obtain ⟨a, cap, rfl, hc, h⟩ := h
  refine ⟨a, cap, rfl, hc, fun t ht => ?_⟩
  obtain ⟨b, o, rfl, h'⟩ := h t ht
  exact ⟨b, o, rfl, (hb.cell (p := ⟨b, o + t, none⟩) (World.block_lt_of_cell? w _ h')).trans h'⟩

theorem IsNums.of_row {k : IntKind} {w : World} {base : Nat} {e : TypeId} {v : Value} {n : Nat} {l : List Int} (h : w.ownsRow base e 1 v n (l.map (Value.int k))) : IsNums k w v l := by
  have hn : l.length = n := by simpa using h.1
  rcases h.2 with ⟨rfl, rfl⟩ | ⟨g, cap, cur, rfl, hb, hg, hnc, hcm, hcs, ht⟩
  · obtain rfl : l = [] := List.eq_nil_of_length_eq_zero hn
    exact IsNums.nil _ _ _ _
  · subst hn
    refine ⟨_, _, rfl, hnc, fun t ht => ⟨g, 0, rfl, ?_⟩⟩
    rw [Nat.zero_add, h.cellAt t (by omega)]
    simp [ht]

/-- A row that is owned up to its end, as the block that it is; and back. -/
theorem row_full {w : World} {base g n : Nat} {e : TypeId} {xs : List Value} (h : w.ownsRow base e 1 (.slice (some ⟨g, 0, none⟩) n n) n xs) : base ≤ g ∧ w.heap[g]? = some (.cells xs.toArray e (0, 0)) := by
  rcases h.2 with ⟨h', _⟩ | ⟨g', cap', cur, h', hb, hg, hnc, hcm, hcs, ht⟩
  · simp at h'
  · simp only [Value.slice.injEq, Option.some.injEq, Addr.mk.injEq, and_true, true_and] at h'
    obtain ⟨rfl, rfl⟩ := h'
    refine ⟨hb, ?_⟩
    rw [hg, ← ht, List.take_of_length_le (by simp; omega)]
theorem full_row {w : World} {base g n : Nat} {e : TypeId} {xs : List Value} (hb : base ≤ g) (hm : n ≤ maxLen) (hl : xs.length = n) (hg : w.heap[g]? = some (.cells xs.toArray e (0, 0))) : w.ownsRow base e 1 (.slice (some ⟨g, 0, none⟩) n n) n xs :=
  ⟨by omega, .inr ⟨g, n, xs.toArray, rfl, hb, hg, Nat.le_refl _, hm, by simp [hl], by simp [← hl]⟩⟩

/-- The number of site i, as Get tells it. -/
def geti (l : List Int) (i : Int) : Int := if i < 0 ∨ (l.length : Int) ≤ i then 0 else l.getD i.toNat 0

theorem geti_nat (l : List Int) (i : Nat) : geti l i = l.getD i 0 := by
  unfold geti
  split
  · rename_i h
    rw [List.getD, List.getElem?_eq_none (by omega)]
    rfl
  · simp

end Go.Proofs.Ytompaldhnbcikaa

/- What the proofs of the statements share: slices that came in. Own work; no statement. -/
set_option linter.unusedSimpArgs false
set_option linter.unusedVariables false
namespace Go.Proofs.Ytompaldhnbcikaa
open Go.ChangeShapes Go.WideShapes Go.ChangeAt Go.RowKit

theorem own : ownKnob Try.prog.godebug = none := by kernel_rfl
theorem laidOut : laidOutB Try.prog = true := by kernel_rfl

/-- A slice of integers that came in: what it reads as; its numbers fit their kind. -/
theorem nums_of_open {H : Type} {enc : TypeId × Value → H} {W : World} {base : Nat} {sp : Nat → Bool} {held : Bool} {t e : TypeId} {k : IntKind} {fuel : Nat} {a : Option Addr} {len cap : Nat} {x : DataW H × List MemPlace}
    (ht : Try.prog.underlying t = some (.slice e)) (he : Try.prog.underlying e = some (.int k)) (hc : Try.prog.cellsOf e = 1) (h : DataW.trod enc Try.prog W base sp held fuel t [.slice a len cap] = some x) (hsp : ∀ b, sp b = true) :
    ∃ zs : List Int, IsNums k W (.slice a len cap) zs ∧ (∀ n ∈ zs, (Lit.int k n).wf = true) := by
  rcases open_ints ht he hc h with ⟨hcs, _⟩ | ⟨y, l, c, zs, hcs, _, hl, hm, hz, _, hcell, hwz⟩
  · simp at hcs
    obtain ⟨rfl, rfl, rfl⟩ := hcs
    exact ⟨[], IsNums.nil _ _ _ _, fun n hn => absurd hn (by simp)⟩
  · simp at hcs
    obtain ⟨rfl, rfl, rfl⟩ := hcs
    rw [hsp, if_pos rfl] at hz
    have hlen : (zs.take len).length = len := by simp; omega
    refine ⟨zs.take len, ⟨some y, cap, by rw [hlen], by omega, fun i hi => ?_⟩, fun n hn => hwz n (List.mem_of_mem_take hn)⟩
    obtain ⟨b, off, rfl, hc'⟩ := ints_at hcell (by omega)
    refine ⟨b, off, rfl, ?_⟩
    rw [hc' i (by omega)]
    simp [List.getD, List.getElem?_take, show i < len by omega]

end Go.Proofs.Ytompaldhnbcikaa

/- The walks of the small functions of vec: each call by its contract. Own work; no statement. -/
set_option linter.unusedSimpArgs false
set_option linter.unusedVariables false
namespace Go.Proofs.Ytompaldhnbcikaa
open Go.RowKit

set_option maxHeartbeats 400000 in
theorem get_calls (v : Value) (l : List Int) (i : Int) (w : World) (hv : IsNums .i64 w v l) (hl : l.length ≤ 1099511627776) :
    Calls Try.prog 36 #[v, .int .i64 i] w fun e w' => e = .returned (.int .i64 (geti l i)) ∧ w' = w := by
  by_cases h0 : i < 0
  · have e : geti l i = 0 := by unfold geti; rw [if_pos (.inl h0)]
    rw [e]
    obtain ⟨a, cap, rfl, -, -⟩ := hv
    go_enter Try.func36, Try.ntmps36
    go_wp2
    go_ret
    exact ⟨rfl, rfl⟩
  · by_cases h1 : (l.length : Int) ≤ i
    · have e : geti l i = 0 := by unfold geti; rw [if_pos (.inr h1)]
      rw [e]
      obtain ⟨a, cap, rfl, -, -⟩ := hv
      go_enter Try.func36, Try.ntmps36
      go_wp2
      go_ret
      exact ⟨rfl, rfl⟩
    · have e : geti l i = l.getD i.toNat 0 := by unfold geti; rw [if_neg (by omega)]
      rw [e]
      obtain ⟨n, rfl⟩ := Int.eq_ofNat_of_zero_le (show 0 ≤ i by omega)
      rcases hv.cases with ⟨rfl, -⟩ | ⟨b, o, cap, rfl, -, hc, hb, hcell⟩
      · exact absurd h1 (by simp)
      · have hcl := hcell n (by omega)
        have hlt : (n : Int) < (l.length : Int) := by omega
        clear hcell hv e
        go_enter Try.func36, Try.ntmps36
        go_wp2
        go_ret
        exact ⟨by simp, rfl⟩


theorem Try.info3 : (Try.prog.info? 3).map (fun i => (i.zero, i.size, i.bytes)) = some (some (.int .i64 0), 1, 8) := by kernel_rfl
theorem Try.isize3 : (Try.prog.info? 3).map (·.size) = some 1 := by kernel_rfl

/-- v with noughts up to n. -/
def stretchL (l : List Int) (n : Nat) : List Int := l ++ List.replicate (n - l.length) 0

end Go.Proofs.Ytompaldhnbcikaa

/- The walks of vec's Join, Meet, Covers, Same, With, Check, written: each call by its contract. Own work; no statement. -/
set_option linter.unusedSimpArgs false
set_option linter.unusedVariables false
namespace Go.Proofs.Ytompaldhnbcikaa
open Go.RowKit

theorem ret_int {k : IntKind} {a b : Int} (h : a = b) : Ending.returned (.int k a) = .returned (.int k b) := by rw [h]

/-- The tests that Covers and Same make of a site. -/
def covB (x y : Int) : Bool := decide (y ≤ x)
def eqB (x y : Int) : Bool := x == y

/-- What f takes of each site that a or b has. -/
def bySiteL (f : Int → Int → Int) (a b : List Int) : List Int := (List.range (max a.length b.length)).map fun i => f (a.getD i 0) (b.getD i 0)
/-- Whether f is true of each site that a or b has. -/
def everyB (f : Int → Int → Bool) (a b : List Int) : Bool := (List.range (max a.length b.length)).all fun i => f (a.getD i 0) (b.getD i 0)

theorem bySiteL_length (f : Int → Int → Int) (a b : List Int) : (bySiteL f a b).length = max a.length b.length := by simp [bySiteL]

/-- The first k of them are there, the others are still nought. -/
def partL (f : Int → Int → Int) (a b : List Int) (k : Nat) : List Int := (List.range (max a.length b.length)).map fun i => if i < k then f (a.getD i 0) (b.getD i 0) else 0
theorem partL_zero (f : Int → Int → Int) (a b : List Int) : partL f a b 0 = List.replicate (max a.length b.length) 0 := by
  apply List.ext_getElem <;> simp [partL]
theorem partL_all (f : Int → Int → Int) (a b : List Int) : partL f a b (max a.length b.length) = bySiteL f a b := by
  apply List.ext_getElem
  · simp [partL, bySiteL]
  · intro i h1 h2
    have h : i < max a.length b.length := by simpa [partL] using h1
    simp only [partL, bySiteL, List.getElem_map, List.getElem_range]
    rw [if_pos h]
theorem partL_succ (f : Int → Int → Int) (a b : List Int) (k : Nat) (h : k < max a.length b.length) : (partL f a b k).set k (f (a.getD k 0) (b.getD k 0)) = partL f a b (k + 1) := by
  apply List.ext_getElem
  · simp [partL]
  · intro i h1 h2
    simp only [partL, List.getElem_set, List.getElem_map, List.getElem_range]
    by_cases e : k = i
    · subst e; simp
    · rw [if_neg e]
      by_cases g : i < k
      · rw [if_pos g, if_pos (by omega)]
      · rw [if_neg g, if_neg (by omega)]
theorem everyB_no (f : Int → Int → Bool) (a b : List Int) (k : Nat) (h : k < max a.length b.length) (hf : f (a.getD k 0) (b.getD k 0) = false) : everyB f a b = false := by
  unfold everyB
  rw [List.all_eq_false]
  exact ⟨k, by simpa using h, by rw [hf]; simp⟩
theorem everyB_yes (f : Int → Int → Bool) (a b : List Int) (h : ∀ i, i < max a.length b.length → f (a.getD i 0) (b.getD i 0) = true) : everyB f a b = true := by
  unfold everyB
  rw [List.all_eq_true]
  intro i hi
  exact h i (by simpa using hi)


end Go.Proofs.Ytompaldhnbcikaa

/- The walks of vec's Covers, Same, With, Check, written, and of the laws' Ints, few, up. Own work; no statement. -/
set_option linter.unusedSimpArgs false
set_option linter.unusedVariables false
namespace Go.Proofs.Ytompaldhnbcikaa
open Go.RowKit
end Go.Proofs.Ytompaldhnbcikaa

/- The walks of vec's With, Check, written, and of the laws' few, Ints, up. Own work; no statement. -/
set_option linter.unusedSimpArgs false
set_option linter.unusedVariables false
namespace Go.Proofs.Ytompaldhnbcikaa
open Go.RowKit

/-- v with n at site i. -/
def withL (l : List Int) (i n : Int) : List Int := if i < 0 ∨ 63 < i then l else (stretchL l (max l.length (i.toNat + 1))).set i.toNat n

theorem stretchL_self (l : List Int) : stretchL l l.length = l := by simp [stretchL]
theorem stretchL_length (l : List Int) (n : Nat) (h : l.length ≤ n) : (stretchL l n).length = n := by simp [stretchL]; omega

end Go.Proofs.Ytompaldhnbcikaa

/- The walks of vec's Check, written, and of the laws' few, Ints, up. Own work; no statement. -/
set_option linter.unusedSimpArgs false
set_option linter.unusedVariables false
namespace Go.Proofs.Ytompaldhnbcikaa
open Go.RowKit

/-- The first number that may not be. -/
def checkN : List Int → Int
  | [] => 0
  | n :: r => if n < 0 then 1 else if 1048576 < n then 4 else checkN r
/-- As what Check tells of l: the number of the error. -/
def checkL (l : List Int) (sites : Int) : Int := if sites < 1 ∨ 8 < sites then 1 else if sites < (l.length : Int) then 4 else checkN l

theorem checkN_drop (l : List Int) (k : Nat) (h : k < l.length) : checkN (l.drop k) = if l.getD k 0 < 0 then 1 else if 1048576 < l.getD k 0 then 4 else checkN (l.drop (k + 1)) := by
  rw [List.drop_eq_getElem_cons h]
  simp [checkN, List.getD, h]

set_option maxHeartbeats 400000 in
theorem check_calls (v : Value) (l : List Int) (s : Int) (w : World) (hv : IsNums .i64 w v l) (hl : l.length ≤ 1099511627776) :
    Calls Try.prog 35 #[v, .int .i64 s] w fun e w' => e = .returned (.int .i64 (checkL l s)) ∧ w' = w := by
  obtain ⟨c, hc⟩ : ∃ c, checkL l s = c := ⟨_, rfl⟩
  rw [hc]
  have Hc := hide hc
  clear hc
  by_cases h1 : s < 1
  · obtain ⟨a1, cap, rfl, -, -⟩ := hv
    go_enter Try.func35, Try.ntmps35
    go_wp2
    go_ret
    exact ⟨ret_int (by rw [← Hc.out, checkL, if_pos (.inl h1)]), rfl⟩
  · by_cases h2 : 8 < s
    · obtain ⟨a1, cap, rfl, -, -⟩ := hv
      go_enter Try.func35, Try.ntmps35
      go_wp2
      go_ret
      exact ⟨ret_int (by rw [← Hc.out, checkL, if_pos (.inr h2)]), rfl⟩
    · by_cases h3 : s < (l.length : Int)
      · obtain ⟨a1, cap, rfl, -, -⟩ := hv
        go_enter Try.func35, Try.ntmps35
        go_wp2
        go_ret
        exact ⟨ret_int (by rw [← Hc.out, checkL, if_neg (by omega), if_pos h3]), rfl⟩
      · have e : checkN l = c := by rw [← Hc.out, checkL, if_neg (by omega), if_neg h3]
        clear Hc
        have E := hide e
        clear e
        rcases hv.cases with ⟨rfl, a1, cap, rfl⟩ | ⟨b, o, cap, rfl, -, hcap, hb, hcell⟩
        · have h3' : ¬ s < 0 := by omega
          go_enter Try.func35, Try.ntmps35
          go_wp2
          refine wp_loop_rounds 1 ?_
          rw [rounds_succ]
          go_wp2
          go_ret
          exact ⟨ret_int (by rw [← E.out]; rfl), rfl⟩
        · have Hcell := hide hcell
          clear hcell hv
          go_enter Try.func35, Try.ntmps35
          go_wp2
          go_loop [19] (fun i => ∃ k : Nat, i = .int .i64 (k : Int) ∧ k ≤ l.length ∧ checkN (l.drop k) = c) (fun i => l.length - (intOf i).toNat)
          case atStart => exact ⟨0, rfl, Nat.zero_le _, E.out⟩
          case round =>
            obtain ⟨k, rfl, hkn, hall⟩ := hrel
            replace hall := hide hall
            by_cases hk : k < l.length
            · have hlt' : (k : Int) < (l.length : Int) := by omega
              have hcl := Hcell.out k hk
              have hd := hide (checkN_drop l k hk)
              generalize l.getD k 0 = x at hcl hd
              by_cases hx : x < 0
              · go_wp2
                go_ret
                exact ⟨ret_int (by rw [← hall.out, hd.out, if_pos hx]), rfl⟩
              · by_cases hx2 : 1048576 < x
                · go_wp2
                  go_ret
                  exact ⟨ret_int (by rw [← hall.out, hd.out, if_neg (by omega), if_pos hx2]), rfl⟩
                · go_wp2
                  exact ⟨⟨k + 1, by go_num, by omega, by rw [← hall.out, hd.out, if_neg (by omega), if_neg (by omega)]⟩, by simp [intOf]; omega⟩
            · go_wp2
              go_ret
              exact ⟨ret_int (by rw [← hall.out, List.drop_of_length_le (by omega)]; rfl), rfl⟩

/-- How many of l's numbers a text has. -/
def writtenL (l : List Int) : Nat := (l.reverse.dropWhile (· == 0)).length
theorem writtenL_le (l : List Int) : writtenL l ≤ l.length := by
  unfold writtenL
  have := (List.dropWhile_suffix (· == (0 : Int)) (l := l.reverse)).length_le
  simpa using this
theorem writtenL_snoc_zero (l : List Int) : writtenL (l ++ [0]) = writtenL l := by simp [writtenL]
theorem writtenL_snoc (l : List Int) (x : Int) (h : ¬ x = 0) : writtenL (l ++ [x]) = l.length + 1 := by simp [writtenL, h]
theorem take_snoc_getD (l : List Int) (k : Nat) (h : k < l.length) : l.take (k + 1) = l.take k ++ [l.getD k 0] := by
  rw [List.take_succ_eq_append_getElem h]
  simp [List.getD, h]

theorem below_draws {B : Nat} {w : World} (n : Nat) : Below B w (w.drewN n) := ⟨rfl, rfl, rfl, Nat.le_refl _, fun _ _ => rfl⟩

end Go.Proofs.Ytompaldhnbcikaa

/- The walk of the laws' up: numbers as a vector. Own work; no statement. -/
set_option linter.unusedSimpArgs false
set_option linter.unusedVariables false
namespace Go.Proofs.Ytompaldhnbcikaa
open Go.RowKit

theorem wrap64_small (x : Int) (h0 : 0 ≤ x) (h1 : x < 4294967296) : wrap64 x = x := by unfold wrap64; omega

end Go.Proofs.Ytompaldhnbcikaa
