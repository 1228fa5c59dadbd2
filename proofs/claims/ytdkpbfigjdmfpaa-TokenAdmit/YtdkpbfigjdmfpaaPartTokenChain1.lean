/- Own work: the parts Base, W1, W2, W3, W4, W5, W6 of the proof, laid together. -/
import Derived.Test.YtdkpbfigjdmfpaaRows
import Derived.WalkKit
import Derived.WalkSpells
import Derived.Laws.CopyOwn
import Derived.Deep.QuietTactic
import Derived.BigQuiet
import Derived.Deep.RegionWith
import Derived.WalkSmall
/- Plain laws on slices of numbers in memory: what a slice reads as, and that it reads so in every later world. Own work; no statement. -/
set_option linter.unusedSimpArgs false
set_option linter.unusedVariables false
namespace Go.Proofs.Ytdkpbfigjdmfpaa
open Go.RowKit

theorem cell_one_at {W : World} {x : Value} {e : TypeId} {g : Nat} (h : g = W.heap.size) : ∀ j u, [x][j]? = some u → (W.alloc (.cells #[x] e)).cell? ((⟨g, 0, none⟩ : Addr).add j) = some u := by
  subst h
  exact cell_one_new W x e

theorem hide {p : Prop} (h : p) : Hid p := h

/-- In the world w the slice v reads as the numbers l. -/
def IsNums (k : IntKind) (w : World) (v : Value) (l : List Int) : Prop :=
  ∃ a cap, v = .slice a l.length cap ∧ l.length ≤ cap ∧ ∀ t, t < l.length → ∃ b o, a = some ⟨b, o, none⟩ ∧ w.cell? ⟨b, o + t, none⟩ = some (.int k (l.getD t 0))

theorem IsNums.nil (k : IntKind) (w : World) (a : Option Addr) (cap : Nat) : IsNums k w (.slice a 0 cap) [] := ⟨a, cap, rfl, Nat.zero_le _, fun t h => absurd h (Nat.not_lt_zero t)⟩

theorem IsNums.cases {k : IntKind} {w : World} {v : Value} {l : List Int} (h : IsNums k w v l) :
    (l = [] ∧ ∃ a cap, v = .slice a 0 cap) ∨ (∃ b o cap, v = .slice (some ⟨b, o, none⟩) l.length cap ∧ 0 < l.length ∧ l.length ≤ cap ∧ b < w.heap.size ∧ ∀ t, t < l.length → w.cell? ⟨b, o + t, none⟩ = some (.int k (l.getD t 0))) := by
  obtain ⟨a, cap, rfl, hc, h⟩ := h
  cases l with
  | nil => exact .inl ⟨rfl, a, cap, rfl⟩
  | cons x xs =>
    refine .inr ?_
    obtain ⟨b, o, rfl, h0⟩ := h 0 (by simp)
    refine ⟨b, o, cap, rfl, by simp, hc, World.block_lt_of_cell? w _ h0, fun t ht => ?_⟩
    obtain ⟨b', o', e, h'⟩ := h t ht
    cases e
    exact h'

theorem IsNums.below {k : IntKind} {w w' : World} {v : Value} {l : List Int} (h : IsNums k w v l) (hb : Below w.heap.size w w') : IsNums k w' v l := by
  obtain ⟨a, cap, rfl, hc, h⟩ := h
  refine ⟨a, cap, rfl, hc, fun t ht => ?_⟩
  obtain ⟨b, o, rfl, h'⟩ := h t ht
  exact ⟨b, o, rfl, (hb.cell (p := ⟨b, o + t, none⟩) (World.block_lt_of_cell? w _ h')).trans h'⟩

theorem IsNums.of_row {k : IntKind} {w : World} {base : Nat} {e : TypeId} {v : Value} {n : Nat} {l : List Int} (h : w.ownsRow base e 1 v n (l.map (Value.int k))) : IsNums k w v l := by
  have hn : l.length = n := by simpa using h.1
  rcases h.2 with ⟨rfl, rfl⟩ | ⟨g, cap, cur, rfl, hb, hg, hnc, hcm, hcs, ht⟩
  · obtain rfl : l = [] := List.eq_nil_of_length_eq_zero hn
    exact IsNums.nil _ _ _ _
  · subst hn
    refine ⟨_, _, rfl, hnc, fun t ht => ⟨g, 0, rfl, ?_⟩⟩
    rw [Nat.zero_add, h.cellAt t (by omega)]
    simp [ht]

/-- A row that is owned up to its end, as the block that it is; and back. -/
theorem row_full {w : World} {base g n : Nat} {e : TypeId} {xs : List Value} (h : w.ownsRow base e 1 (.slice (some ⟨g, 0, none⟩) n n) n xs) : base ≤ g ∧ w.heap[g]? = some (.cells xs.toArray e (0, 0)) := by
  rcases h.2 with ⟨h', _⟩ | ⟨g', cap', cur, h', hb, hg, hnc, hcm, hcs, ht⟩
  · simp at h'
  · simp only [Value.slice.injEq, Option.some.injEq, Addr.mk.injEq, and_true, true_and] at h'
    obtain ⟨rfl, rfl⟩ := h'
    refine ⟨hb, ?_⟩
    rw [hg, ← ht, List.take_of_length_le (by simp; omega)]
theorem full_row {w : World} {base g n : Nat} {e : TypeId} {xs : List Value} (hb : base ≤ g) (hm : n ≤ maxLen) (hl : xs.length = n) (hg : w.heap[g]? = some (.cells xs.toArray e (0, 0))) : w.ownsRow base e 1 (.slice (some ⟨g, 0, none⟩) n n) n xs :=
  ⟨by omega, .inr ⟨g, n, xs.toArray, rfl, hb, hg, Nat.le_refl _, hm, by simp [hl], by simp [← hl]⟩⟩

/-- The number of site i, as Get tells it. -/
def geti (l : List Int) (i : Int) : Int := if i < 0 ∨ (l.length : Int) ≤ i then 0 else l.getD i.toNat 0

theorem geti_nat (l : List Int) (i : Nat) : geti l i = l.getD i 0 := by
  unfold geti
  split
  · rename_i h
    rw [List.getD, List.getElem?_eq_none (by omega)]
    rfl
  · simp

end Go.Proofs.Ytdkpbfigjdmfpaa

/- The walks of the small functions of vec: each call by its contract. Own work; no statement. -/
set_option linter.unusedSimpArgs false
set_option linter.unusedVariables false
namespace Go.Proofs.Ytdkpbfigjdmfpaa
open Go.RowKit

set_option maxHeartbeats 400000 in
theorem get_calls (v : Value) (l : List Int) (i : Int) (w : World) (hv : IsNums .i64 w v l) (hl : l.length ≤ 1099511627776) :
    Calls Try.prog 42 #[v, .int .i64 i] w fun e w' => e = .returned (.int .i64 (geti l i)) ∧ w' = w := by
  by_cases h0 : i < 0
  · have e : geti l i = 0 := by unfold geti; rw [if_pos (.inl h0)]
    rw [e]
    obtain ⟨a, cap, rfl, -, -⟩ := hv
    go_enter Try.func42, Try.ntmps42
    go_wp2
    go_ret
    exact ⟨rfl, rfl⟩
  · by_cases h1 : (l.length : Int) ≤ i
    · have e : geti l i = 0 := by unfold geti; rw [if_pos (.inr h1)]
      rw [e]
      obtain ⟨a, cap, rfl, -, -⟩ := hv
      go_enter Try.func42, Try.ntmps42
      go_wp2
      go_ret
      exact ⟨rfl, rfl⟩
    · have e : geti l i = l.getD i.toNat 0 := by unfold geti; rw [if_neg (by omega)]
      rw [e]
      obtain ⟨n, rfl⟩ := Int.eq_ofNat_of_zero_le (show 0 ≤ i by omega)
      rcases hv.cases with ⟨rfl, -⟩ | ⟨b, o, cap, rfl, -, hc, hb, hcell⟩
      · exact absurd h1 (by simp)
      · have hcl := hcell n (by omega)
        have hlt : (n : Int) < (l.length : Int) := by omega
        clear hcell hv e
        go_enter Try.func42, Try.ntmps42
        go_wp2
        go_ret
        exact ⟨by simp, rfl⟩


theorem Try.info3 : (Try.prog.info? 3).map (fun i => (i.zero, i.size, i.bytes)) = some (some (.int .i64 0), 1, 8) := by kernel_rfl
theorem Try.isize3 : (Try.prog.info? 3).map (·.size) = some 1 := by kernel_rfl

/-- v with noughts up to n. -/
def stretchL (l : List Int) (n : Nat) : List Int := l ++ List.replicate (n - l.length) 0

set_option maxHeartbeats 400000 in
theorem stretched_calls (v : Value) (l : List Int) (n : Nat) (w : World) (hv : IsNums .i64 w v l) (hn : n ≤ 1099511627776) (hl : l.length ≤ n) :
    Calls Try.prog 48 #[v, .int .i64 (n : Int)] w fun e w' => e = .returned (.slice (some ⟨w.heap.size, 0, none⟩) n n) ∧
      w'.ownsRow w.heap.size 3 1 (.slice (some ⟨w.heap.size, 0, none⟩) n n) n ((stretchL l n).map (Value.int .i64)) ∧ Below w.heap.size w w' := by
  obtain ⟨i0, hi, hz0, hz1, hz2⟩ := info_parts Try.info3
  obtain ⟨zs, hzs⟩ : ∃ zs : List Value, zs = List.replicate n (.int .i64 0) := ⟨_, rfl⟩
  obtain ⟨cs, hcs⟩ : ∃ cs : List Value, cs = l.map (Value.int .i64) := ⟨_, rfl⟩
  have hcl : cs.length = l.length := by rw [hcs]; simp
  have hzl : zs.length = n := by rw [hzs]; simp
  have Hzs : Hid (zs = List.replicate n (.int .i64 0)) := hzs
  have Hcs : Hid (cs = l.map (Value.int .i64)) := hcs
  have h1c : ∀ u ∈ cs, u.oneCell' = true := by rw [hcs]; exact ints_oneCell _ _
  obtain ⟨a, cap, rfl, hcap, hcell⟩ := hv
  have hsrc : ∀ j u, cs[j]? = some u → ∃ b o, a = some ⟨b, o, none⟩ ∧ b < w.heap.size ∧ w.cell? ⟨b, o + j, none⟩ = some u := by
    intro j u hu
    have hj : j < l.length := by have := (List.getElem?_eq_some_iff.1 hu).1; omega
    obtain ⟨b, o, ha, hc⟩ := hcell j hj
    refine ⟨b, o, ha, World.block_lt_of_cell? w _ hc, ?_⟩
    rw [hc, ← hu, hcs]
    simp [hj]
  clear hzs hcs hcell
  go_enter Try.func48, Try.ntmps48
  go_wp2_with (at_make; refine wpList_make_full _ rfl _ _ 23 rfl w.heap.size 3 i0 (.int .i64 0) 1 Try.underlying23 hi hz0 hz1 _ _ _ _ n rfl rfl rfl rfl ?b2 ?b3 (Nat.le_refl _) ?_)
  case b2 => rw [hz2]; omega
  case b3 => unfold maxLen; omega
  intro w0 hown0 hgrow0
  have hb0 : Below w.heap.size w w0 := (Below.refl _ _).grown hgrow0 (Nat.le_refl _) (fun k h => by cases h)
  have hrow : w0.heap[w.heap.size]? = some (.cells zs.toArray 3 (0, 0)) := by
    rw [toList_madeCells_one, ← Hzs.out] at hown0
    exact (row_full hown0).2
  clear hown0 hgrow0 hi hz0 hz1 hz2
  have Hsrc := hide hsrc
  clear hsrc
  go_wp2_with (refine wpList_copy_splice rfl _ _ 23 23 rfl 3 Try.underlying23 Try.isize3 _ _ n n l.length cap rfl rfl w.heap.size 0 zs 3 hrow cs ?c1 ?c2 (by omega) h1c w.heap.size w hb0 (Nat.le_refl _) ?_)
  case c1 => rw [hcl]; exact (Nat.min_eq_left hl).symm
  case c2 =>
    intro hp
    obtain ⟨b, o, rfl, hb, hc⟩ := Hsrc.out 0 cs[0] (by simp [hp])
    refine ⟨⟨b, o, none⟩, rfl, fun j u hu => ?_⟩
    obtain ⟨b', o', e, hb', hc'⟩ := Hsrc.out j u hu
    cases e
    rw [Addr.add_lit, hb0.cell (p := ⟨b, o + j, none⟩) hb']
    exact hc'
  intro w2 hg2 hb2
  go_wp2
  go_ret
  refine ⟨rfl, ?_, hb2⟩
  have e : splice zs 0 cs = (stretchL l n).map (Value.int .i64) := by
    rw [Hzs.out, Hcs.out]
    simp [splice, stretchL]
  rw [← e]
  exact full_row (Nat.le_refl _) (by unfold maxLen; omega) (by rw [length_splice _ _ _ (by omega)]; exact hzl) hg2.out

end Go.Proofs.Ytdkpbfigjdmfpaa

/- The walks of vec's Join, Meet, Covers, Same, With, Check, written: each call by its contract. Own work; no statement. -/
set_option linter.unusedSimpArgs false
set_option linter.unusedVariables false
namespace Go.Proofs.Ytdkpbfigjdmfpaa
open Go.RowKit

theorem ret_int {k : IntKind} {a b : Int} (h : a = b) : Ending.returned (.int k a) = .returned (.int k b) := by rw [h]

/-- The tests that Covers and Same make of a site. -/
def covB (x y : Int) : Bool := decide (y ≤ x)
def eqB (x y : Int) : Bool := x == y

/-- What f takes of each site that a or b has. -/
def bySiteL (f : Int → Int → Int) (a b : List Int) : List Int := (List.range (max a.length b.length)).map fun i => f (a.getD i 0) (b.getD i 0)
/-- Whether f is true of each site that a or b has. -/
def everyB (f : Int → Int → Bool) (a b : List Int) : Bool := (List.range (max a.length b.length)).all fun i => f (a.getD i 0) (b.getD i 0)

theorem bySiteL_length (f : Int → Int → Int) (a b : List Int) : (bySiteL f a b).length = max a.length b.length := by simp [bySiteL]

/-- The first k of them are there, the others are still nought. -/
def partL (f : Int → Int → Int) (a b : List Int) (k : Nat) : List Int := (List.range (max a.length b.length)).map fun i => if i < k then f (a.getD i 0) (b.getD i 0) else 0
theorem partL_zero (f : Int → Int → Int) (a b : List Int) : partL f a b 0 = List.replicate (max a.length b.length) 0 := by
  apply List.ext_getElem <;> simp [partL]
theorem partL_all (f : Int → Int → Int) (a b : List Int) : partL f a b (max a.length b.length) = bySiteL f a b := by
  apply List.ext_getElem
  · simp [partL, bySiteL]
  · intro i h1 h2
    have h : i < max a.length b.length := by simpa [partL] using h1
    simp only [partL, bySiteL, List.getElem_map, List.getElem_range]
    rw [if_pos h]
theorem partL_succ (f : Int → Int → Int) (a b : List Int) (k : Nat) (h : k < max a.length b.length) : (partL f a b k).set k (f (a.getD k 0) (b.getD k 0)) = partL f a b (k + 1) := by
  apply List.ext_getElem
  · simp [partL]
  · intro i h1 h2
    simp only [partL, List.getElem_set, List.getElem_map, List.getElem_range]
    by_cases e : k = i
    · subst e; simp
    · rw [if_neg e]
      by_cases g : i < k
      · rw [if_pos g, if_pos (by omega)]
      · rw [if_neg g, if_neg (by omega)]
theorem everyB_no (f : Int → Int → Bool) (a b : List Int) (k : Nat) (h : k < max a.length b.length) (hf : f (a.getD k 0) (b.getD k 0) = false) : everyB f a b = false := by
  unfold everyB
  rw [List.all_eq_false]
  exact ⟨k, by simpa using h, by rw [hf]; simp⟩
theorem everyB_yes (f : Int → Int → Bool) (a b : List Int) (h : ∀ i, i < max a.length b.length → f (a.getD i 0) (b.getD i 0) = true) : everyB f a b = true := by
  unfold everyB
  rw [List.all_eq_true]
  intro i hi
  exact h i (by simpa using hi)


set_option maxHeartbeats 400000 in
theorem Covers1_calls (x y : Int) (w : World) : Calls Try.prog 44 #[.int .i64 x, .int .i64 y] w fun e w' => e = .returned (.bool (covB x y)) ∧ w' = w := by
  go_enter Try.func44, Try.ntmps44
  go_wp2
  all_goals go_ret
  all_goals exact ⟨by simp [covB], rfl⟩
end Go.Proofs.Ytdkpbfigjdmfpaa

/- The walks of vec's Covers, Same, With, Check, written, and of the laws' Ints, few, up. Own work; no statement. -/
set_option linter.unusedSimpArgs false
set_option linter.unusedVariables false
namespace Go.Proofs.Ytdkpbfigjdmfpaa
open Go.RowKit

set_option maxHeartbeats 1000000 in
theorem everywhereCovers_calls (va vb : Value) (a b : List Int) (w : World) (ha : IsNums .i64 w va a) (hb : IsNums .i64 w vb b) (hla : a.length ≤ 1099511627776) (hlb : b.length ≤ 1099511627776) :
    Calls Try.prog 43 #[va, vb, .func (.func 44) #[] #[]] w fun e w' => e = .returned (.bool (everyB covB a b)) ∧ w' = w := by
  obtain ⟨a1, capa, rfl, -, -⟩ := id ha
  obtain ⟨b1, capb, rfl, -, -⟩ := id hb
  have Ha := hide ha
  have Hb := hide hb
  clear ha hb
  obtain ⟨n, hn⟩ : ∃ n : Nat, max a.length b.length = n := ⟨_, rfl⟩
  have hn1 : n ≤ 1099511627776 := by omega
  have Hn := hide hn
  have hnI : ∃ (x : Bool), (if (a.length : Int) < (b.length : Int) then (b.length : Int) else (a.length : Int)) = n := ⟨true, by split <;> omega⟩
  clear hn
  by_cases hlt : (a.length : Int) < (b.length : Int)
  case' pos => obtain ⟨-, HI⟩ : ∃ (x : Bool), Hid ((b.length : Int) = n) := ⟨true, by have := Hn.out; unfold Hid; omega⟩
  case' neg => obtain ⟨-, HI⟩ : ∃ (x : Bool), Hid ((a.length : Int) = n) := ⟨true, by have := Hn.out; unfold Hid; omega⟩
  all_goals
    clear hnI
    go_enter Try.func43, Try.ntmps43
    go_wp2
    rw [HI.out]
    go_loop [13] (fun i => ∃ k : Nat, i = .int .i64 (k : Int) ∧ k ≤ n ∧ ∀ j : Nat, j < k → covB (geti a j) (geti b j) = true) (fun i => n - (intOf i).toNat)
    case atStart => exact ⟨0, rfl, Nat.zero_le _, fun j h => absurd h (Nat.not_lt_zero j)⟩
    case round =>
      obtain ⟨k, rfl, hkn, hall⟩ := hrel
      have hall := hide hall
      by_cases hk : k < n
      · have hlt' : (k : Int) < (n : Int) := by omega
        cases hf : covB (geti a k) (geti b k)
        · go_wp2_with (first | (go_at_call_of 42 (Value.slice a1 a.length capa); refine (get_calls _ _ _ _ Ha.out hla).mono ?_; rintro e w' ⟨rfl, rfl⟩) | (go_at_call_of 42 (Value.slice b1 b.length capb); refine (get_calls _ _ _ _ Hb.out hlb).mono ?_; rintro e w' ⟨rfl, rfl⟩) | (go_at_call 44; refine (Covers1_calls _ _ _).mono ?_; rintro e w' ⟨rfl, rfl⟩))
          go_ret
          refine ⟨?_, rfl⟩
          rw [everyB_no covB a b k (by have := Hn.out; omega) (by rw [← geti_nat, ← geti_nat]; exact hf)]
          rfl
        · have hf' := hide hf
          go_wp2_with (first | (go_at_call_of 42 (Value.slice a1 a.length capa); refine (get_calls _ _ _ _ Ha.out hla).mono ?_; rintro e w' ⟨rfl, rfl⟩) | (go_at_call_of 42 (Value.slice b1 b.length capb); refine (get_calls _ _ _ _ Hb.out hlb).mono ?_; rintro e w' ⟨rfl, rfl⟩) | (go_at_call 44; refine (Covers1_calls _ _ _).mono ?_; rintro e w' ⟨rfl, rfl⟩))
          refine ⟨⟨k + 1, by go_num, by omega, fun j hj => ?_⟩, by simp [intOf]; omega⟩
          by_cases e : j = k
          · rw [e]; exact hf'.out
          · exact hall.out j (by omega)
      · go_wp2
        go_ret
        refine ⟨?_, rfl⟩
        rw [everyB_yes covB a b (fun i hi => by rw [← geti_nat, ← geti_nat]; exact hall.out i (by have := Hn.out; omega))]
        rfl

set_option maxHeartbeats 400000 in
theorem covers_calls (va vb : Value) (a b : List Int) (w : World) (ha : IsNums .i64 w va a) (hb : IsNums .i64 w vb b) (hla : a.length ≤ 1099511627776) (hlb : b.length ≤ 1099511627776) :
    Calls Try.prog 33 #[va, vb] w fun e w' => e = .returned (.bool (everyB covB a b)) ∧ w' = w := by
  have Ha := hide ha
  have Hb := hide hb
  obtain ⟨a1, capa, rfl, -, -⟩ := ha
  obtain ⟨b1, capb, rfl, -, -⟩ := hb
  have hmf : ∀ (fn : Fn) (first cap : Array Value) (w : World), (Instr.makeFunc fn first cap).run Try.prog w = .ok (.func fn first cap) w := fun _ _ _ _ => rfl
  go_enter Try.func33, Try.ntmps33
  go_wp2_with (go_at_call 43; refine (everywhereCovers_calls _ _ a b _ Ha.out Hb.out hla hlb).mono ?_; rintro e w' ⟨rfl, rfl⟩)
  go_ret
  exact ⟨rfl, rfl⟩
end Go.Proofs.Ytdkpbfigjdmfpaa

/- The walks of vec's With, Check, written, and of the laws' few, Ints, up. Own work; no statement. -/
set_option linter.unusedSimpArgs false
set_option linter.unusedVariables false
namespace Go.Proofs.Ytdkpbfigjdmfpaa
open Go.RowKit

/-- v with n at site i. -/
def withL (l : List Int) (i n : Int) : List Int := if i < 0 ∨ 63 < i then l else (stretchL l (max l.length (i.toNat + 1))).set i.toNat n

theorem stretchL_self (l : List Int) : stretchL l l.length = l := by simp [stretchL]
theorem stretchL_length (l : List Int) (n : Nat) (h : l.length ≤ n) : (stretchL l n).length = n := by simp [stretchL]; omega

set_option maxHeartbeats 400000 in
theorem with_calls (v : Value) (l : List Int) (i n : Int) (w : World) (hv : IsNums .i64 w v l) (hl : l.length ≤ 1099511627000) :
    Calls Try.prog 47 #[v, .int .i64 i, .int .i64 n] w fun e w' => ∃ v', e = .returned v' ∧ IsNums .i64 w' v' (withL l i n) ∧ Below w.heap.size w w' := by
  have Hv := hide hv
  obtain ⟨a1, cap, rfl, -, -⟩ := hv
  by_cases h : i < 0 ∨ 63 < i
  · have e : withL l i n = stretchL l l.length := by rw [withL, if_pos h, stretchL_self]
    have E := hide e
    clear e
    rcases h with h | h
    · go_enter Try.func47, Try.ntmps47
      go_wp2_with (go_at_call 48; refine (stretched_calls _ l l.length _ Hv.out (by omega) (Nat.le_refl _)).mono ?_; rintro e w' ⟨rfl, hown, hB⟩)
      go_ret
      rw [E.out]
      exact ⟨_, rfl, IsNums.of_row hown, hB⟩
    · have h0 : ¬ i < 0 := by omega
      go_enter Try.func47, Try.ntmps47
      go_wp2_with (go_at_call 48; refine (stretched_calls _ l l.length _ Hv.out (by omega) (Nat.le_refl _)).mono ?_; rintro e w' ⟨rfl, hown, hB⟩)
      go_ret
      rw [E.out]
      exact ⟨_, rfl, IsNums.of_row hown, hB⟩
  · have e : withL l i n = (stretchL l (max l.length (i.toNat + 1))).set i.toNat n := by rw [withL, if_neg h]
    obtain ⟨k, rfl⟩ := Int.eq_ofNat_of_zero_le (show 0 ≤ i by omega)
    rw [Int.toNat_natCast] at e
    have E := hide e
    clear e
    have h0 : ¬ (k : Int) < 0 := by omega
    have h1 : ¬ 63 < (k : Int) := by omega
    obtain ⟨m, hm⟩ : ∃ m, max l.length (k + 1) = m := ⟨_, rfl⟩
    have hm1 : m ≤ 1099511627776 := by omega
    have hm2 : l.length ≤ m := by omega
    have hm3 : k < m := by omega
    have Hm := hide hm
    clear hm h
    by_cases hlt : (l.length : Int) < (k : Int) + 1
    case' pos => have HI : Hid ((k : Int) + 1 = (m : Int)) := hide (by have := Hm.out; omega)
    case' neg => have HI : Hid ((l.length : Int) = (m : Int)) := hide (by have := Hm.out; omega)
    all_goals
      go_enter Try.func47, Try.ntmps47
      go_wp2_with (go_at_call 48; rw [HI.out]; refine (stretched_calls _ l m _ Hv.out (by omega) hm2).mono ?_; rintro e w' ⟨rfl, hown, hB⟩; have hc := hown.cellAt k (by omega); have hf := hown.frozenAt k; obtain ⟨hown2, hg2⟩ := hown.stored k (.int .i64 n); rw [List.getElem?_map, List.getElem?_eq_getElem (by rw [stretchL_length _ _ hm2]; exact hm3), Option.map_some] at hc; generalize (stretchL l m)[k]'(by rw [stretchL_length _ _ hm2]; exact hm3) = old at hc; have HO := hide hown2; clear hown hown2 hg2)
      go_ret
      refine ⟨_, rfl, ?_, hB.setCell (p := ⟨w.heap.size, k, none⟩) (Nat.le_refl _) _⟩
      have := HO.out
      rw [← List.map_set] at this
      rw [E.out, Hm.out]
      exact IsNums.of_row this

end Go.Proofs.Ytdkpbfigjdmfpaa

/- The walks of vec's Check, written, and of the laws' few, Ints, up. Own work; no statement. -/
set_option linter.unusedSimpArgs false
set_option linter.unusedVariables false
namespace Go.Proofs.Ytdkpbfigjdmfpaa
open Go.RowKit

/-- The first number that may not be. -/
def checkN : List Int → Int
  | [] => 0
  | n :: r => if n < 0 then 1 else if 1048576 < n then 4 else checkN r
/-- As what Check tells of l: the number of the error. -/
def checkL (l : List Int) (sites : Int) : Int := if sites < 1 ∨ 8 < sites then 1 else if sites < (l.length : Int) then 4 else checkN l

theorem checkN_drop (l : List Int) (k : Nat) (h : k < l.length) : checkN (l.drop k) = if l.getD k 0 < 0 then 1 else if 1048576 < l.getD k 0 then 4 else checkN (l.drop (k + 1)) := by
  rw [List.drop_eq_getElem_cons h]
  simp [checkN, List.getD, h]

set_option maxHeartbeats 400000 in
theorem check_calls (v : Value) (l : List Int) (s : Int) (w : World) (hv : IsNums .i64 w v l) (hl : l.length ≤ 1099511627776) :
    Calls Try.prog 30 #[v, .int .i64 s] w fun e w' => e = .returned (.int .i64 (checkL l s)) ∧ w' = w := by
  obtain ⟨c, hc⟩ : ∃ c, checkL l s = c := ⟨_, rfl⟩
  rw [hc]
  have Hc := hide hc
  clear hc
  by_cases h1 : s < 1
  · obtain ⟨a1, cap, rfl, -, -⟩ := hv
    go_enter Try.func30, Try.ntmps30
    go_wp2
    go_ret
    exact ⟨ret_int (by rw [← Hc.out, checkL, if_pos (.inl h1)]), rfl⟩
  · by_cases h2 : 8 < s
    · obtain ⟨a1, cap, rfl, -, -⟩ := hv
      go_enter Try.func30, Try.ntmps30
      go_wp2
      go_ret
      exact ⟨ret_int (by rw [← Hc.out, checkL, if_pos (.inr h2)]), rfl⟩
    · by_cases h3 : s < (l.length : Int)
      · obtain ⟨a1, cap, rfl, -, -⟩ := hv
        go_enter Try.func30, Try.ntmps30
        go_wp2
        go_ret
        exact ⟨ret_int (by rw [← Hc.out, checkL, if_neg (by omega), if_pos h3]), rfl⟩
      · have e : checkN l = c := by rw [← Hc.out, checkL, if_neg (by omega), if_neg h3]
        clear Hc
        have E := hide e
        clear e
        rcases hv.cases with ⟨rfl, a1, cap, rfl⟩ | ⟨b, o, cap, rfl, -, hcap, hb, hcell⟩
        · have h3' : ¬ s < 0 := by omega
          go_enter Try.func30, Try.ntmps30
          go_wp2
          refine wp_loop_rounds 1 ?_
          rw [rounds_succ]
          go_wp2
          go_ret
          exact ⟨ret_int (by rw [← E.out]; rfl), rfl⟩
        · have Hcell := hide hcell
          clear hcell hv
          go_enter Try.func30, Try.ntmps30
          go_wp2
          go_loop [19] (fun i => ∃ k : Nat, i = .int .i64 (k : Int) ∧ k ≤ l.length ∧ checkN (l.drop k) = c) (fun i => l.length - (intOf i).toNat)
          case atStart => exact ⟨0, rfl, Nat.zero_le _, E.out⟩
          case round =>
            obtain ⟨k, rfl, hkn, hall⟩ := hrel
            replace hall := hide hall
            by_cases hk : k < l.length
            · have hlt' : (k : Int) < (l.length : Int) := by omega
              have hcl := Hcell.out k hk
              have hd := hide (checkN_drop l k hk)
              generalize l.getD k 0 = x at hcl hd
              by_cases hx : x < 0
              · go_wp2
                go_ret
                exact ⟨ret_int (by rw [← hall.out, hd.out, if_pos hx]), rfl⟩
              · by_cases hx2 : 1048576 < x
                · go_wp2
                  go_ret
                  exact ⟨ret_int (by rw [← hall.out, hd.out, if_neg (by omega), if_pos hx2]), rfl⟩
                · go_wp2
                  exact ⟨⟨k + 1, by go_num, by omega, by rw [← hall.out, hd.out, if_neg (by omega), if_neg (by omega)]⟩, by simp [intOf]; omega⟩
            · go_wp2
              go_ret
              exact ⟨ret_int (by rw [← hall.out, List.drop_of_length_le (by omega)]; rfl), rfl⟩

/-- How many of l's numbers a text has. -/
def writtenL (l : List Int) : Nat := (l.reverse.dropWhile (· == 0)).length
theorem writtenL_le (l : List Int) : writtenL l ≤ l.length := by
  unfold writtenL
  have := (List.dropWhile_suffix (· == (0 : Int)) (l := l.reverse)).length_le
  simpa using this
theorem writtenL_snoc_zero (l : List Int) : writtenL (l ++ [0]) = writtenL l := by simp [writtenL]
theorem writtenL_snoc (l : List Int) (x : Int) (h : ¬ x = 0) : writtenL (l ++ [x]) = l.length + 1 := by simp [writtenL, h]
theorem take_snoc_getD (l : List Int) (k : Nat) (h : k < l.length) : l.take (k + 1) = l.take k ++ [l.getD k 0] := by
  rw [List.take_succ_eq_append_getElem h]
  simp [List.getD, h]

theorem below_draws {B : Nat} {w : World} (n : Nat) : Below B w (w.drewN n) := ⟨rfl, rfl, rfl, Nat.le_refl _, fun _ _ => rfl⟩

end Go.Proofs.Ytdkpbfigjdmfpaa

/- The walk of the laws' up: numbers as a vector. Own work; no statement. -/
set_option linter.unusedSimpArgs false
set_option linter.unusedVariables false
namespace Go.Proofs.Ytdkpbfigjdmfpaa
open Go.RowKit

theorem wrap64_small (x : Int) (h0 : 0 ≤ x) (h1 : x < 4294967296) : wrap64 x = x := by unfold wrap64; omega

end Go.Proofs.Ytdkpbfigjdmfpaa
