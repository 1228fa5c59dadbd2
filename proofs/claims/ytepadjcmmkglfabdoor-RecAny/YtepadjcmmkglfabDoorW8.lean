/- vec's All: the range over a vector's sites, by its contract; Sum, which goes over it. Own work; no statement. -/
import Derived.RangeFuncNested
import Derived.RangeFuncBound
import Derived.RangeFuncCalls
import Derived.RangeFuncLeaves
import Derived.Shelf.Abstract
import Derived.Shelf.RegionOpen
import Derived.OwnWalkIn
import Derived.TacticsInMore
import Derived.LoopNIn
import Derived.LoopIn
import Derived.Test.YtepadjcmmkglfabDoorW7
set_option linter.unusedSimpArgs false
set_option linter.unusedVariables false
namespace Go.Proofs.YtepadjcmmkglfabDoor
open Go.RowKit Go.Shelf

attribute [local go_sem] Oper.semAt_some

/-- The sites below k that are not nothing, with their numbers. -/
def pairsTo (l : List Int) : Nat → List (Int × Int)
  | 0 => []
  | k + 1 => pairsTo l k ++ (if l.getD k 0 = 0 then [] else [((k : Int), l.getD k 0)])

theorem pairsTo_length (l : List Int) : ∀ k, (pairsTo l k).length ≤ k
  | 0 => by simp [pairsTo]
  | k + 1 => by
    have := pairsTo_length l k
    simp only [pairsTo, List.length_append]
    split <;> simp <;> omega

theorem pairsTo_skip (l : List Int) (k : Nat) (x : Int) (hx : l.getD k 0 = x) (h : x = 0) : pairsTo l (k + 1) = pairsTo l k := by simp only [pairsTo]; rw [if_pos (hx.trans h)]; simp
theorem pairsTo_take (l : List Int) (k : Nat) (x : Int) (hx : l.getD k 0 = x) (h : ¬ x = 0) : pairsTo l (k + 1) = pairsTo l k ++ [((k : Int), x)] := by simp only [pairsTo]; rw [if_neg (by rw [hx]; exact h), hx]

/-- Bs is the box of what All goes over: a row of its own, g, with the numbers l. -/
def IsAll (w : World) (Bs g : Nat) (l : List Int) : Prop :=
  g < w.heap.size ∧ Bs < w.heap.size ∧ w.cell? ⟨Bs, 0, none⟩ = some (.slice (some ⟨g, 0, none⟩) l.length l.length) ∧ ∀ t, t < l.length → w.cell? ⟨g, t, none⟩ = some (.int .i64 (l.getD t 0))

theorem IsAll.below {w w' : World} {Bs g : Nat} {l : List Int} (h : IsAll w Bs g l) (hb : Below w.heap.size w w') : IsAll w' Bs g l :=
  ⟨Nat.lt_of_lt_of_le h.1 hb.size, Nat.lt_of_lt_of_le h.2.1 hb.size, (hb.cell (p := ⟨Bs, 0, none⟩) h.2.1).trans h.2.2.1, fun t ht => (hb.cell (p := ⟨g, t, none⟩) h.1).trans (h.2.2.2 t ht)⟩

/-- What a round of a loop over All must keep: the row of the numbers. -/
def KeepsRow (g : Nat) (W W' : World) : Prop := W'.heap[g]? = W.heap[g]?
theorem keepsRow_t {g : Nat} {A B C : World} (h : KeepsRow g A B) (k : KeepsRow g B C) : KeepsRow g A C := Eq.trans k h
theorem keepsRow_b {g n : Nat} (hg : g < n) (W : World) (l : Nat) (o o' : Obj) (hl : n ≤ l) (_ : W.heap[l]? = some o) (_ : o.isCells = false) (_ : o.isWalk = false) : KeepsRow g W (W.putObj l o') := by
  unfold KeepsRow World.putObj
  simp only [Array.getElem?_setIfInBounds]
  rw [if_neg (by omega)]

theorem KeepsRow.cell {g t : Nat} {W W' : World} (h : KeepsRow g W W') : W'.cell? ⟨g, t, none⟩ = W.cell? ⟨g, t, none⟩ := World.cell?_of_block (w := W) (a := ⟨g, t, none⟩) h

set_option maxRecDepth 100000 in
set_option maxHeartbeats 2000000 in
/-- All's closure: for every loop body that keeps the row. -/
theorem all1_in (n : Nat) (hn : 1 ≤ n) (lp Bs g : Nat) (l : List Int) (hlen : l.length ≤ 1099511627776) (J Jx : List (Int × Int) → World → Prop)
    (hY : ∀ pre x W, J pre W → pre.length < l.length → YieldAt Fence.wide (n - 1) Tryd.prog lp #[.int .i64 x.1, .int .i64 x.2] W fun e W' =>
      (e = .returned (.bool true) ∧ J (pre ++ [x]) W' ∧ KeepsRow g W W') ∨ (e = .returned (.bool false) ∧ Jx (pre ++ [x]) W'))
    (W : World) (hA : IsAll W Bs g l) (h0 : J [] W) :
    CallsIn Fence.wide n Tryd.prog 40 #[.func (.yield lp) #[] #[], .pointer (some ⟨Bs, 0, none⟩)] W fun e W' => (∃ v, e = .returned v) ∧
      ((∃ ys, ys = pairsTo l l.length ∧ J ys W') ∨ (∃ pre, (∃ k, k ≤ l.length ∧ pre = pairsTo l k) ∧ Jx pre W')) := by
  obtain ⟨hg, hBs, hbox, hcell⟩ := hA
  refine callsIn_of_wp Tryd.func40 rfl trivial ?_ rfl
  simp only [Tryd.ntmps40, List.size_toArray, List.length_cons, List.length_nil, Nat.reduceAdd, Nat.reduceSub, Array.replicate_succ, Array.replicate_zero, List.push_toArray, List.append_toArray, List.nil_append, List.cons_append]
  have HY := hide hY
  have Hc := hide hcell
  clear hY hcell
  gi_wp2
  clear hbox
  gi_loopw [7] (fun i wr => ∃ k : Nat, k ≤ l.length ∧ i = .int .i64 (k : Int) ∧ J (pairsTo l k) wr ∧ KeepsRow g W wr) (fun i _ => l.length - (intOf i).toNat)
  case atStart => exact ⟨0, Nat.zero_le _, rfl, h0, rfl⟩
  case round =>
    obtain ⟨k, hk, rfl, hJs, hnx⟩ := hrel
    by_cases hlt : k < l.length
    · have hcx : wr.cell? ⟨g, k, none⟩ = _ := hnx.cell.trans (Hc.out k hlt)
      have hltI : (k : Int) < (l.length : Int) := by omega
      have hpl := pairsTo_length l k
      generalize hx : l.getD k 0 = x at hcx
      replace hx := hide hx
      replace hnx := hide hnx
      by_cases hx0 : x = 0
      · have hx1 : (x != 0) = false := by simp [hx0]
        replace hx0 := hide hx0
        gi_wp2
        refine ⟨fun _ h => (by cases h), ?_⟩
        gi_wp2
        exact ⟨⟨k + 1, by omega, by go_num, by rw [pairsTo_skip l k x hx.out hx0.out]; exact hJs, hnx.out⟩, by simp [intOf]; omega⟩
      · have hx1 : (x != 0) = true := by simp [hx0]
        replace hx0 := hide hx0
        obtain ⟨fn, tmps, assign, body, hy, hR⟩ := HY.out _ ((k : Int), x) wr hJs (by omega)
        dsimp only at hy
        gi_wp2
        refine hR.mono ?_
        rintro e W3 (⟨rfl, hJ3, hk3⟩ | ⟨rfl, hJx3⟩)
        · gi_wp2
          exact ⟨⟨k + 1, by omega, by go_num, by rw [pairsTo_take l k x hx.out hx0.out]; exact hJ3, keepsRow_t hnx.out hk3⟩, by simp [intOf]; omega⟩
        · gi_wp2
          refine bodyPost_ret (results_none rfl _ _ _) rfl ?_
          exact ⟨⟨_, rfl⟩, .inr ⟨_, ⟨k + 1, by omega, (pairsTo_take l k x hx.out hx0.out).symm⟩, hJx3⟩⟩
    · obtain rfl : k = l.length := by omega
      gi_wp2
      go_end0
      exact ⟨⟨_, rfl⟩, .inl ⟨_, rfl, hJs⟩⟩

/-- What All answers: a sequence that goes over the sites that are not nothing, rising, as long as it is asked. -/
theorem all_stops (n : Nat) (hn : 1 ≤ n) (Bs g : Nat) (l : List Int) (hlen : l.length ≤ 1099511627776) (w : World) (hA : IsAll w Bs g l) :
    SeqStopsK Fence.wide n Tryd.prog 40 #[.pointer (some ⟨Bs, 0, none⟩)] (fun x : Int × Int => #[Value.int .i64 x.1, Value.int .i64 x.2]) (KeepsRow g) (fun ys => ys = pairsTo l l.length)
      (fun pre => ∃ k, k ≤ l.length ∧ pre = pairsTo l k) l.length w := fun lp J Jx W hW _ _ hY h0 =>
  all1_in n hn lp Bs g l hlen J Jx hY W (hA.below hW) h0

set_option maxHeartbeats 400000 in
theorem all_calls (v : Value) (l : List Int) (w : World) (hv : IsNums .i64 w v l) (hl : l.length ≤ 1099511627776) :
    Calls Tryd.prog 15 #[v] w fun e w' => ∃ Bs g, e = .returned (.func (.func 40) #[] #[.pointer (some ⟨Bs, 0, none⟩)]) ∧ IsAll w' Bs g l ∧ w.heap.size ≤ g ∧ w.heap.size ≤ Bs ∧ Below w.heap.size w w' := by
  have Hv := hide hv
  obtain ⟨a1, cap, rfl, -, -⟩ := hv
  have hmf : ∀ (fn : Fn) (first cap : Array Value) (w : World), (Instr.makeFunc fn first cap).run Tryd.prog w = .ok (.func fn first cap) w := fun _ _ _ _ => rfl
  go_enter Tryd.func15, Tryd.ntmps15
  go_wp2_with (go_at_call 39; refine (stretched_calls _ l l.length _ Hv.out hl (Nat.le_refl _)).mono ?_; rintro e w' ⟨rfl, hown, hB⟩; rw [stretchL_self] at hown)
  go_ret
  have hlt := (hown.lt w.heap.size rfl).2
  refine ⟨w'.heap.size, w.heap.size, rfl, ⟨by simp; omega, by simp, ?_, fun t ht => ?_⟩, Nat.le_refl _, hB.size, hB.alloc hB.size _⟩
  · rw [World.cell?_alloc_at _ _ _ _ rfl]; rfl
  · rw [World.cell?_alloc_past _ _ _ hlt, hown.cellAt t (by omega)]
    simp [ht]

/-- The numbers together, as an int adds them. -/
def sumW (ps : List (Int × Int)) : Int := ps.foldl (fun s p => wrap64 (s + p.2)) 0
theorem sumW_snoc (ps : List (Int × Int)) (x : Int × Int) : sumW (ps ++ [x]) = wrap64 (sumW ps + x.2) := by simp [sumW]

set_option maxRecDepth 100000 in
set_option maxHeartbeats 2000000 in
theorem sum_calls0 (v : Value) (l : List Int) (w : World) (hv : IsNums .i64 w v l) (hl : l.length ≤ 1099511627776) :
    Calls Tryd.prog 16 #[v] w fun e w' => e = .returned (.int .i64 (sumW (pairsTo l l.length))) ∧ Below w.heap.size w w' := by
  refine (callsIn_wide (n := 5)).1 ?_
  obtain ⟨a1, cap, rfl, -, -⟩ := id hv
  have hB0 : Below w.heap.size w (w.alloc (.cells #[.int .i64 0] 3)) := (Below.refl _ w).alloc (Nat.le_refl _) _
  have hA := callsIn_wide (n := 4) |>.2 (all_calls _ l _ (hv.below hB0) hl)
  have HA := hide hA
  clear hA
  refine callsIn_of_wp_marks Tryd.func16 rfl trivial ?_ rfl
  simp only [Tryd.ntmps16, List.size_toArray, List.length_cons, List.length_nil, Nat.reduceAdd, Nat.reduceSub, Array.replicate_succ, Array.replicate_zero, List.push_toArray, List.append_toArray, List.nil_append, List.cons_append]
  gi_wp2_with (refine ⟨trivial, ?_⟩; gi_at_call 15; refine HA.out.mono ?_; rintro e w1 ⟨Bs, g, rfl, hAll, hg, hBs, hB1⟩)
  clear HA
  rw [World.size_alloc] at hg hBs hB1
  have hBw : Below w.heap.size w w1 := hB0.trans (hB1.mono (by omega))
  have hbox : w1.cell? ⟨w.heap.size, 0, none⟩ = some (.int .i64 0) := (hB1.cell (p := ⟨w.heap.size, 0, none⟩) (Nat.lt_succ_self _)).trans (Boxed.new w 3 (.int .i64 0)).cell
  have hfro : w1.frozen? ⟨w.heap.size, 0, none⟩ = false := (hB1.frozen (p := ⟨w.heap.size, 0, none⟩) (Nat.lt_succ_self _)).trans (Boxed.new w 3 (.int .i64 0)).frozen
  have hwlt : w.heap.size < w1.heap.size := by have := hB1.size; simp at this; omega
  refine wpIn_rangeFunc_ownG rfl (by decide) (gf := 40) (lb := #[.pointer (some ⟨Bs, 0, none⟩)]) rfl trivial (enters_of Tryd.func40 (by kernel_rfl) rfl)
    (all_stops 4 (by decide) Bs g l hl w1 hAll) keepsRow_t (keepsRow_b hAll.1) (Below.refl _ _) (fun _ => rfl)
    (fun pre W => (W.cell? ⟨w.heap.size, 0, none⟩ = some (.int .i64 (sumW pre)) ∧ W.frozen? ⟨w.heap.size, 0, none⟩ = false) ∧ Below w.heap.size w W)
    (fun _ _ _ => False)
    (OwnFrom.and (Own.from (fun s A B row hs hg hr => ⟨cell_kept hs.1 hg hr, (frozen_kept hs.1 hg hr).trans hs.2⟩) _) (ownFrom_below (Nat.le_refl _) (by omega)))
    (fun _ _ _ _ _ hs _ _ => hs)
    ⟨⟨hbox, hfro⟩, hBw⟩
    (fun x => { tmps := #[.slice a1 l.length cap, undef, .int .i64 0, .pointer (some ⟨w.heap.size, 0, none⟩), undef, .int .i64 x.2, .slice a1 l.length cap, .func (.func 40) #[] #[.pointer (some ⟨Bs, 0, none⟩)], .int .i64 x.1, .int .i64 x.2, undef, undef, undef, undef], defers := [] }) ?assign ?body ?done ?stop
  case assign =>
    intro l x W K hK
    gi_wp2
    exact hK
  case body =>
    rintro lp pre x W ⟨⟨hc, hf⟩, hB⟩ _
    gi_wp2
    refine ⟨(KeepsOthers.setCell _ _ _).from _, Below.heap_setCell _ _ _ _ (show g ≠ w.heap.size by omega), ⟨by rw [sumW_snoc]; exact World.cell?_setCell_same' _ _ _ (by rw [hc]; rfl), by rw [World.frozen?_setCell]; exact hf⟩, hB.setCell (p := ⟨w.heap.size, 0, none⟩) (Nat.le_refl _) _⟩
  case done =>
    rintro D ys W hD rfl ⟨⟨hc, _⟩, hB⟩ hK
    gi_wp2
    refine ⟨by simp, .inl ⟨_, _, rfl, run_takeDeferred hK, ?_⟩⟩
    exact ⟨_, results_tmp rfl _ _ _, rfl, hB.trans (belowK_b (w := w) (Nat.le_refl _) W D _ _ (by omega) hK rfl rfl)⟩
  case stop =>
    rintro D c pre W _ _ h _
    exact h.elim

end Go.Proofs.YtepadjcmmkglfabDoor
