/- Own work: the parts W7, W8, W9, Range, W11, W12 of the proof, laid together. -/
import Derived.Test.YtncmocmmkbmmjaaGreatDoorPartSegLines1
import Derived.Test.YtncmocmmkbmmjaaGreatDoorShelf
import Derived.Laws.BytesArg
import Derived.Lib.ItoaLen
import Derived.Lib.AppendIntMem
import Derived.Lib.UnsafeStr
import Derived.RangeFuncNested
import Derived.RangeFuncBound
import Derived.RangeFuncCalls
import Derived.RangeFuncLeaves
import Derived.Shelf.Abstract
import Derived.Shelf.RegionOpen
import Derived.OwnWalkIn
import Derived.TacticsInMore
import Derived.LoopNIn
import Derived.LoopIn
import Derived.Maps.OwnIn
import Derived.Lib.Bytealg
/- The walk of vec's Text: a vector in words. Own work; no statement. -/
set_option linter.unusedSimpArgs false
set_option linter.unusedVariables false
namespace Go.Proofs.YtncmocmmkbmmjaaGreatDoor
open Go.RowKit

theorem conv_row {P : Program} {w : World} {base n : Nat} {e src dst : TypeId} {v : Value} {bs : List UInt8} (h : w.ownsRow base e 1 v n (Lib.byteCells bs))
    (hs : P.underlying src = some (.slice e)) (he : P.underlying e = some (.int .u8)) (hd : P.underlying dst = some .string) : (convert src dst v).run P w = .ok (.string ⟨bs.toArray⟩) w := by
  have hn : bs.length = n := by simpa [Lib.byteCells] using h.1
  have e1 : strOfNums (bs.map fun b => (b.toNat : Int)) = ⟨bs.toArray⟩ := by
    have : (bs.map fun b => (b.toNat : Int)).map (fun n => UInt8.ofNat n.toNat) = bs := by
      rw [List.map_map]
      conv => rhs; rw [← List.map_id bs]
      apply List.map_congr_left
      intro b _
      simp
    unfold strOfNums
    rw [this]
  rcases h.2 with ⟨rfl, rfl⟩ | ⟨g, cap, cur, rfl, hb, hg, hnc, hcm, hcs, ht⟩
  · obtain rfl : bs = [] := List.eq_nil_of_length_eq_zero hn
    exact run_convert_bytes_nil w src e hs he 0 0 dst hd
  · rw [← e1]
    refine run_convert_bytes_arg w src e hs he g 0 n cap _ (by simpa using hn) (fun i hi => ?_) dst hd
    rw [Nat.zero_add, h.cellAt i (by omega)]
    simp [Lib.byteCells, List.getD, show i < bs.length by omega]

/-- The library's table of powers of ten lies where it lay, in this world and in all that come out of it. -/
def Pow (w : World) : Prop := Lib.TabBelow Tryz.prog w.heap.size w "internal/strconv.uint64pow10" .u64 Lib.pow10Tab
theorem Pow.below {w w' : World} (h : Pow w) (hb : Below w.heap.size w w') : Pow w' := fun w2 h2 => h w2 (hb.trans (h2.mono hb.size))

/-- The numbers are such as an int holds. -/
def InR (l : List Int) : Prop := ∀ x ∈ l, -9223372036854775808 ≤ x ∧ x ≤ 9223372036854775807

/-- The first k numbers in words, with blanks between. -/
def numsTo (l : List Int) : Nat → List UInt8
  | 0 => []
  | k + 1 => numsTo l k ++ ((if k = 0 then [] else [32]) ++ Lib.itoa (l.getD k 0))
/-- A vector in words. -/
def textL (l : List Int) : List UInt8 := 91 :: (numsTo l (writtenL l) ++ [93])

theorem getD_inR {l : List Int} (h : InR l) (k : Nat) : -9223372036854775808 ≤ l.getD k 0 ∧ l.getD k 0 ≤ 9223372036854775807 := by
  by_cases hk : k < l.length
  · rw [List.getD, List.getElem?_eq_getElem hk]
    exact h _ (List.getElem_mem hk)
  · rw [List.getD, List.getElem?_eq_none (by omega)]
    simp

theorem numsTo_length {l : List Int} (h : InR l) : ∀ k, (numsTo l k).length ≤ 22 * k
  | 0 => by simp [numsTo]
  | k + 1 => by
    have h1 := numsTo_length h k
    have h2 := Lib.itoa_length_le (l.getD k 0) (getD_inR h k).1 (getD_inR h k).2
    have h3 : ((if k = 0 then [] else [32] : List UInt8)).length ≤ 1 := by split <;> simp
    simp only [numsTo, List.length_append]
    omega

theorem snoc93 (l : List UInt8) : Lib.byteCells l ++ [.int .u8 93] = Lib.byteCells (l ++ [93]) := by simp [Lib.byteCells]
theorem snoc32 (l : List UInt8) : Lib.byteCells l ++ [.int .u8 32] = Lib.byteCells (l ++ [32]) := by simp [Lib.byteCells]

theorem Tryz.info5 : (Tryz.prog.info? 5).map (fun i => (i.zero, i.size, i.bytes)) = some (some (.int .u8 0), 1, 1) := by kernel_rfl

theorem written_nil : ((writtenL [] : Nat) : Int) = 0 := rfl

set_option maxHeartbeats 1000000 in
set_option maxRecDepth 20000 in
theorem text_calls (v : Value) (l : List Int) (w : World) (hv : IsNums .i64 w v l) (hl : l.length ≤ 4294967296) (hr : InR l) (hp : Pow w) :
    Calls Tryz.prog 109 #[v] w fun e w' => e = .returned (.string ⟨(textL l).toArray⟩) ∧ Below w.heap.size w w' := by
  obtain ⟨i0, hi, hz0, hz1, hz2⟩ := info_parts Tryz.info5
  have Hv := hide hv
  have hwl := writtenL_le l
  rcases hv.cases with ⟨rfl, a1, cap, rfl⟩ | ⟨b, o, cap, rfl, -, hcap, hb, hcell⟩
  · have hB0 : Below w.heap.size w (w.alloc (.cells #[.int .u8 91] 5)) := (Below.refl _ _).alloc (Nat.le_refl _) _
    have hown : (w.alloc (.cells #[.int .u8 91] 5)).ownsRow w.heap.size 5 1 (.slice (some ⟨w.heap.size, 0, none⟩) 1 1) 1 (Lib.byteCells [91]) := World.ownsRow_lit _ #[.int .u8 91] 1 (Nat.le_refl _) (by unfold maxLen; omega) rfl
    clear hv hr hp
    go_enter Tryz.func109, Tryz.ntmps109
    go_wp2_with (go_at_call 118; refine (written_calls _ [] _ (Hv.out.below hB0) (by simp)).mono ?_; rintro e w' ⟨rfl, rfl⟩; rw [written_nil])
    refine wp_loop_rounds 1 ?_
    rw [rounds_succ]
    have hbs := hB0.size
    go_wp2_with (at_builtin; refine wpList_append_own _ rfl (.tmp 26) _ 49 rfl w.heap.size 5 i0 (.int .u8 0) 1 1 Tryz.underlying49 hi hz0 hz1 hz2 rfl (by decide) _ _ _ rfl (hown.alloc _) ⟨_, 0, none⟩ 1 1 [.int .u8 93] rfl rfl (cell_one_at (by simp)) (by intro u hu; simp at hu; subst hu; rfl) (by unfold maxLen; omega) (by omega) (by simp; omega) ?_; intro v1 w1 hown1 hgrow1 _; rw [snoc93] at hown1; have hcv := conv_row (dst := 9) hown1 Tryz.underlying49 Tryz.underlying5 Tryz.underlying9)
    go_ret
    exact ⟨by simp [textL, writtenL, numsTo], (hB0.alloc hB0.size _).grown hgrow1 (by simp; omega) (fun j hj => (hown.lt j hj).1)⟩
  · obtain ⟨m, hm⟩ : ∃ m, writtenL l = m := ⟨_, rfl⟩
    have Hm := hide hm
    rw [hm] at hwl
    have Hcell := hide hcell
    have HR := hide hr
    have HP := hide hp
    clear hcell hv hr hp hm
    have hB0 : Below w.heap.size w (w.alloc (.cells #[.int .u8 91] 5)) := (Below.refl _ _).alloc (Nat.le_refl _) _
    have hown0 : (w.alloc (.cells #[.int .u8 91] 5)).ownsRow w.heap.size 5 1 (.slice (some ⟨w.heap.size, 0, none⟩) 1 1) 1 (Lib.byteCells [91]) := World.ownsRow_lit _ #[.int .u8 91] 1 (Nat.le_refl _) (by unfold maxLen; omega) rfl
    go_enter Tryz.func109, Tryz.ntmps109
    go_wp2_with (go_at_call 118; refine (written_calls _ l _ (Hv.out.below hB0) (by omega)).mono ?_; rintro e w' ⟨rfl, rfl⟩; rw [Hm.out])
    go_loopw [3, 12] (fun v i wr => ∃ k : Nat, i = .int .i64 (k : Int) ∧ k ≤ m ∧ wr.ownsRow w.heap.size 5 1 v (91 :: numsTo l k).length (Lib.byteCells (91 :: numsTo l k)) ∧ Below w.heap.size w wr) (fun _ i _ => m - (intOf i).toNat)
    case atStart => exact ⟨0, rfl, Nat.zero_le _, hown0, hB0⟩
    case round =>
      clear hown0 hB0
      obtain ⟨k, rfl, hkn, hown, hB⟩ := hrel
      have hnl : (numsTo l k).length ≤ 22 * k := numsTo_length HR.out k
      have hbs := hB.size
      obtain ⟨L, hL⟩ : ∃ L, 91 :: numsTo l k = L := ⟨_, rfl⟩
      rw [hL] at hown
      have hLl : L.length ≤ 22 * k + 1 := by rw [← hL]; simp; omega
      replace hL := hide hL
      by_cases hk : k < m
      · have hlt : (k : Int) < (m : Int) := by omega
        have hcl : wr.cell? ⟨b, o + k, none⟩ = _ := (hB.cell (p := ⟨b, o + k, none⟩) hb).trans (Hcell.out k (by omega))
        have hxr := getD_inR HR.out k
        generalize hx : l.getD k 0 = x at hcl hxr
        have hsucc : numsTo l (k + 1) = numsTo l k ++ ((if k = 0 then [] else [32]) ++ Lib.itoa x) := by rw [numsTo, hx]
        replace hsucc := hide hsucc
        replace hx := hide hx
        obtain ⟨hx0, hx1⟩ := hxr
        by_cases hk0 : k = 0
        · have hk1 : ¬ 0 < (k : Int) := by omega
          replace hk0 := hide hk0
          go_wp2_with (go_at_call 119; refine (Tryz.strconv_AppendInt_10 w.heap.size _ x hx0 hx1 _ _ _ hown hbs (by omega) (Lib.TabBelow.on HP.out hB)).mono ?_; rintro e w2 ⟨v2, rfl, hown2, hB2, -⟩)
          refine ⟨⟨k + 1, by go_num, by omega, ?_, hB.trans hB2⟩, by simp [intOf]; omega⟩
          rw [hsucc.out, if_pos hk0.out, List.nil_append, ← List.cons_append, hL.out, List.length_append, Lib.byteCells_append]
          exact hown2
        · have hk1 : 0 < (k : Int) := by omega
          go_wp2_with (first | (at_builtin; refine wpList_append_own _ rfl (.tmp 19) _ 49 rfl w.heap.size 5 i0 (.int .u8 0) 1 1 Tryz.underlying49 hi hz0 hz1 hz2 rfl (by decide) _ _ _ rfl (hown.alloc _) ⟨_, 0, none⟩ 1 1 [.int .u8 32] rfl rfl (cell_one_at (by simp)) (by intro u hu; simp at hu; subst hu; rfl) (by unfold maxLen; omega) (by omega) (by simp; omega) ?_; intro v1 w1 hown1 hgrow1 _; rw [snoc32] at hown1; have hB1 : Below w.heap.size w w1 := (hB.alloc hB.size _).grown hgrow1 (by simp; omega) (fun j hj => (hown.lt j hj).1); have hbs1 := hB1.size; clear hgrow1) | (go_at_call 119; refine (Tryz.strconv_AppendInt_10 w.heap.size _ x hx0 hx1 v1 _ w1 hown1 hbs1 (by omega) (Lib.TabBelow.on HP.out hB1)).mono ?_; rintro e w2 ⟨v2, rfl, hown2, hB2, -⟩))
          refine ⟨⟨k + 1, by go_num, by omega, ?_, hB1.trans hB2⟩, by simp [intOf]; omega⟩
          rw [hsucc.out, if_neg hk0, ← List.append_assoc, ← List.cons_append, ← List.cons_append, hL.out, List.length_append, List.length_append, Lib.byteCells_append]
          exact hown2
      · go_wp2_with (at_builtin; refine wpList_append_own _ rfl (.tmp 26) _ 49 rfl w.heap.size 5 i0 (.int .u8 0) 1 1 Tryz.underlying49 hi hz0 hz1 hz2 rfl (by decide) _ _ _ rfl (hown.alloc _) ⟨_, 0, none⟩ 1 1 [.int .u8 93] rfl rfl (cell_one_at (by simp)) (by intro u hu; simp at hu; subst hu; rfl) (by unfold maxLen; omega) (by omega) (by simp; omega) ?_; intro v1 w1 hown1 hgrow1 _; rw [snoc93] at hown1; have hcv := conv_row (dst := 9) hown1 Tryz.underlying49 Tryz.underlying5 Tryz.underlying9)
        go_ret
        refine ⟨?_, ?_⟩
        · have hkm : k = m := by omega
          rw [← hL.out, hkm, ← Hm.out]
          rfl
        · exact (hB.alloc hB.size _).grown hgrow1 (by simp; omega) (fun j hj => (hown.lt j hj).1)

end Go.Proofs.YtncmocmmkbmmjaaGreatDoor

/- vec's All: the range over a vector's sites, by its contract; Sum, which goes over it. Own work; no statement. -/
set_option linter.unusedSimpArgs false
set_option linter.unusedVariables false
namespace Go.Proofs.YtncmocmmkbmmjaaGreatDoor
open Go.RowKit Go.Shelf

attribute [local go_sem] Oper.semAt_some

/-- The sites below k that are not nothing, with their numbers. -/
def pairsTo (l : List Int) : Nat → List (Int × Int)
  | 0 => []
  | k + 1 => pairsTo l k ++ (if l.getD k 0 = 0 then [] else [((k : Int), l.getD k 0)])

theorem pairsTo_length (l : List Int) : ∀ k, (pairsTo l k).length ≤ k
  | 0 => by simp [pairsTo]
  | k + 1 => by
    have := pairsTo_length l k
    simp only [pairsTo, List.length_append]
    split <;> simp <;> omega

theorem pairsTo_skip (l : List Int) (k : Nat) (x : Int) (hx : l.getD k 0 = x) (h : x = 0) : pairsTo l (k + 1) = pairsTo l k := by simp only [pairsTo]; rw [if_pos (hx.trans h)]; simp
theorem pairsTo_take (l : List Int) (k : Nat) (x : Int) (hx : l.getD k 0 = x) (h : ¬ x = 0) : pairsTo l (k + 1) = pairsTo l k ++ [((k : Int), x)] := by simp only [pairsTo]; rw [if_neg (by rw [hx]; exact h), hx]

/-- Bs is the box of what All goes over: a row of its own, g, with the numbers l. -/
def IsAll (w : World) (Bs g : Nat) (l : List Int) : Prop :=
  g < w.heap.size ∧ Bs < w.heap.size ∧ w.cell? ⟨Bs, 0, none⟩ = some (.slice (some ⟨g, 0, none⟩) l.length l.length) ∧ ∀ t, t < l.length → w.cell? ⟨g, t, none⟩ = some (.int .i64 (l.getD t 0))

theorem IsAll.below {w w' : World} {Bs g : Nat} {l : List Int} (h : IsAll w Bs g l) (hb : Below w.heap.size w w') : IsAll w' Bs g l :=
  ⟨Nat.lt_of_lt_of_le h.1 hb.size, Nat.lt_of_lt_of_le h.2.1 hb.size, (hb.cell (p := ⟨Bs, 0, none⟩) h.2.1).trans h.2.2.1, fun t ht => (hb.cell (p := ⟨g, t, none⟩) h.1).trans (h.2.2.2 t ht)⟩

/-- What a round of a loop over All must keep: the row of the numbers. -/
def KeepsRow (g : Nat) (W W' : World) : Prop := W'.heap[g]? = W.heap[g]?
theorem keepsRow_t {g : Nat} {A B C : World} (h : KeepsRow g A B) (k : KeepsRow g B C) : KeepsRow g A C := Eq.trans k h
theorem keepsRow_b {g n : Nat} (hg : g < n) (W : World) (l : Nat) (o o' : Obj) (hl : n ≤ l) (_ : W.heap[l]? = some o) (_ : o.isCells = false) (_ : o.isWalk = false) : KeepsRow g W (W.putObj l o') := by
  unfold KeepsRow World.putObj
  simp only [Array.getElem?_setIfInBounds]
  rw [if_neg (by omega)]

theorem KeepsRow.cell {g t : Nat} {W W' : World} (h : KeepsRow g W W') : W'.cell? ⟨g, t, none⟩ = W.cell? ⟨g, t, none⟩ := World.cell?_of_block (w := W) (a := ⟨g, t, none⟩) h

/-- The numbers together, as an int adds them. -/
def sumW (ps : List (Int × Int)) : Int := ps.foldl (fun s p => wrap64 (s + p.2)) 0
theorem sumW_snoc (ps : List (Int × Int)) (x : Int × Int) : sumW (ps ++ [x]) = wrap64 (sumW ps + x.2) := by simp [sumW]

end Go.Proofs.YtncmocmmkbmmjaaGreatDoor

/- Memory laws for rows and boxes side by side; Sum in plain numbers; the laws' Pairs. Own work; no statement. -/
set_option linter.unusedSimpArgs false
set_option linter.unusedVariables false
namespace Go.Proofs.YtncmocmmkbmmjaaGreatDoor
open Go.RowKit Go.Shelf

attribute [local go_sem] Oper.semAt_some

theorem ownsRow_slice {W : World} {base : Nat} {e : TypeId} {size : Nat} {v : Value} {n : Nat} {xs : List Value} (h : W.ownsRow base e size v n xs) : ∃ a cap, v = .slice a n cap := by
  rcases h.2 with ⟨rfl, rfl⟩ | ⟨g, cap, cur, rfl, _⟩
  · exact ⟨_, _, rfl⟩
  · exact ⟨_, _, rfl⟩
theorem ownsRow_of_heap {W W' : World} {base : Nat} {e : TypeId} {size : Nat} {v : Value} {n : Nat} {xs : List Value} (h : W.ownsRow base e size v n xs) (hk : ∀ k, v.ownBlock = some k → W'.heap[k]? = W.heap[k]?) : W'.ownsRow base e size v n xs := by
  refine ⟨h.1, ?_⟩
  rcases h.2 with hn | ⟨g, cap, cur, rfl, hb, hgg, rest⟩
  · exact .inl hn
  · exact .inr ⟨g, cap, cur, rfl, hb, (hk g rfl).trans hgg, rest⟩
theorem ownsRow_low {W : World} {B B' : Nat} {e : TypeId} {size : Nat} {v : Value} {n : Nat} {xs : List Value} (h : W.ownsRow B e size v n xs) (hB : B' ≤ B) : W.ownsRow B' e size v n xs := by
  refine ⟨h.1, ?_⟩
  rcases h.2 with hn | ⟨g, cap, cur, rfl, hb, rest⟩
  · exact .inl hn
  · exact .inr ⟨g, cap, cur, rfl, Nat.le_trans hB hb, rest⟩
theorem boxed_of_heap {W W' : World} {B : Nat} {t : TypeId} {v : Value} (h : Boxed W B t v) (hk : W'.heap[B]? = W.heap[B]?) : Boxed W' B t v := hk.trans h
/-- Behind 'x = append(x, ..)' by way of x's box B: every other block is as it was. -/
theorem app_other {W w1 : World} {tmp : Obj} {row : Option Nat} {B : Nat} {v' : Value} (hgrow : (W.alloc tmp).grownBy w1 row) (k : Nat) (hk : k < W.heap.size) (hne : some k ≠ row) (hB : k ≠ B) : (w1.setCell ⟨B, 0, none⟩ v').heap[k]? = W.heap[k]? :=
  (Below.heap_setCell _ _ _ _ hB).trans ((hgrow.block k (by simp; omega) hne).trans (Below.heap_alloc _ _ _ hk))
theorem own_keeps {X Y : World} {row : Option Nat} (hg : X.grownBy Y row) (hrow : ∀ r, row = some r → ∃ o : Obj, X.heap[r]? = some o ∧ o.isCells = false) {k : Nat} {c : Array Value} {t : TypeId} {fr : Nat × Nat} (h : X.heap[k]? = some (.cells c t fr)) : Y.heap[k]? = X.heap[k]? := by
  refine hg.block k (Array.getElem?_eq_some_iff.1 h).1 (fun e => ?_)
  obtain ⟨o, ho, hc⟩ := hrow k e.symm
  rw [h] at ho
  cases ho
  cases hc
theorem boxed_own' {X Y : World} {row : Option Nat} (hg : X.grownBy Y row) (hrow : ∀ r, row = some r → ∃ o : Obj, X.heap[r]? = some o ∧ o.isCells = false) {B : Nat} {t : TypeId} {v : Value} (h : Boxed X B t v) : Boxed Y B t v := (own_keeps hg hrow h).trans h
theorem ownsRow_own' {X Y : World} {row : Option Nat} (hg : X.grownBy Y row) (hrow : ∀ r, row = some r → ∃ o : Obj, X.heap[r]? = some o ∧ o.isCells = false) {base : Nat} {e : TypeId} {size : Nat} {v : Value} {n : Nat} {xs : List Value} (h : X.ownsRow base e size v n xs) : Y.ownsRow base e size v n xs := by
  refine ownsRow_of_heap h (fun k hk => ?_)
  rcases h.2 with ⟨rfl, _⟩ | ⟨g, cap, cur, rfl, hb, hgg, rest⟩
  · cases hk
  · obtain rfl : g = k := by simpa [Value.ownBlock] using hk
    exact own_keeps hg hrow hgg

/-- Two boxes side by side, each with a slice that owns a row of its own, and the rows are two. -/
def Two (W : World) (n₀ : Nat) (t e : TypeId) (c c' : Nat) (v v' : Value) (n n' : Nat) (xs ys : List Value) : Prop :=
  Boxed W c t v ∧ Boxed W c' t v' ∧ W.ownsRow n₀ e 1 v n xs ∧ W.ownsRow n₀ e 1 v' n' ys ∧ ∀ k, v.ownBlock = some k → v'.ownBlock ≠ some k
theorem Two.symm {W : World} {n₀ : Nat} {t e : TypeId} {c c' : Nat} {v v' : Value} {n n' : Nat} {xs ys : List Value} (h : Two W n₀ t e c c' v v' n n' xs ys) : Two W n₀ t e c' c v' v n' n ys xs :=
  ⟨h.2.1, h.1, h.2.2.2.1, h.2.2.1, fun k h1 h2 => h.2.2.2.2 k h2 h1⟩
theorem Two.own {X Y : World} {row : Option Nat} (hg : X.grownBy Y row) (hrow : ∀ r, row = some r → ∃ o : Obj, X.heap[r]? = some o ∧ o.isCells = false) {n₀ : Nat} {t e : TypeId} {c c' : Nat} {v v' : Value} {n n' : Nat} {xs ys : List Value} (h : Two X n₀ t e c c' v v' n n' xs ys) : Two Y n₀ t e c c' v v' n n' xs ys :=
  ⟨boxed_own' hg hrow h.1, boxed_own' hg hrow h.2.1, ownsRow_own' hg hrow h.2.2.1, ownsRow_own' hg hrow h.2.2.2.1, h.2.2.2.2⟩
/-- 'x = append(x, y)', x the one of the two. -/
theorem Two.app {W w1 : World} {n₀ : Nat} {t e : TypeId} {c c' : Nat} {v v' u : Value} {n n' m : Nat} {xs ys zs : List Value} {tmp : Obj} (h : Two W n₀ t e c c' v v' n n' xs ys) (hte : t ≠ e) (hcc : c ≠ c') (hn₀ : n₀ ≤ W.heap.size) (hc : n₀ ≤ c)
    (hown : w1.ownsRow n₀ e 1 u m zs) (hgrow : (W.alloc tmp).grownBy w1 v.ownBlock) (hat : u.ownBlock = v.ownBlock ∨ u.ownBlock = some (W.alloc tmp).heap.size) :
    Boxed w1 c t v ∧ Two (w1.setCell ⟨c, 0, none⟩ u) n₀ t e c c' u v' m n' zs ys ∧ KeepsOthers W (w1.setCell ⟨c, 0, none⟩ u) ∧ Below n₀ W (w1.setCell ⟨c, 0, none⟩ u) ∧ W.heap.size ≤ w1.heap.size ∧
      Hid (∀ b t' z, Boxed W b t' z → t' ≠ e → b ≠ c → Boxed (w1.setCell ⟨c, 0, none⟩ u) b t' z) := by
  obtain ⟨ba, bb, ra, rb, hap⟩ := h
  obtain ⟨h1, h2, h3, h4, h5⟩ := ba.appended hte ra hn₀ hc hown hgrow
  refine ⟨h1, ⟨h2, boxed_of_heap bb (app_other hgrow c' bb.lt (bb.not_row hte ra) (fun e => hcc e.symm)), h3, ownsRow_of_heap rb (fun k hk => app_other hgrow k (rb.lt k hk).2 (fun e => hap k e.symm hk) (fun e => ba.not_row hte rb (by rw [hk, e]))), fun k h6 h7 => ?_⟩, h4, h5, ?_, fun b t' z hb ht hbc => boxed_of_heap hb (app_other hgrow b hb.lt (hb.not_row ht ra) hbc)⟩
  case refine_2 => have := hgrow.size; simp at this; omega
  rcases hat with e | e
  · exact hap k (e ▸ h6) h7
  · have := (rb.lt k h7).2
    rw [h6] at e
    simp at e
    omega
/-- The numbers that All tells, added: those of the vector. -/
theorem sum_pairsTo (l : List Int) (h : ∀ x ∈ l, 0 ≤ x ∧ x ≤ 1099511627776) (hl : l.length ≤ 1048576) : ∀ k, k ≤ l.length → sumW (pairsTo l k) = (l.take k).sum ∧ 0 ≤ (l.take k).sum ∧ (l.take k).sum ≤ 1099511627776 * k
  | 0, _ => by simp [pairsTo, sumW]
  | k + 1, hk => by
    obtain ⟨h1, h2, h3⟩ := sum_pairsTo l h hl k (by omega)
    have hx := h (l.getD k 0) (by rw [List.getD, List.getElem?_eq_getElem (by omega)]; exact List.getElem_mem _)
    have hs : (l.take (k + 1)).sum = (l.take k).sum + l.getD k 0 := by rw [take_snoc_getD l k (by omega)]; simp
    have hk3 : (1099511627776 : Int) * ((k + 1 : Nat) : Int) = 1099511627776 * (k : Int) + 1099511627776 := by omega
    rw [hs, hk3]
    refine ⟨?_, by omega, by omega⟩
    simp only [pairsTo]
    split
    · rename_i h0
      rw [List.append_nil, h1, h0]
      omega
    · rw [sumW_snoc, h1]
      unfold wrap64
      omega

end Go.Proofs.YtncmocmmkbmmjaaGreatDoor

/- A range over a function whose iterator keeps a variable of its own in memory: what it does between two rounds is told by a relation E, which the caller's invariant must abide. Own work; no statement. -/
set_option linter.unusedSimpArgs false
set_option linter.unusedVariables false
namespace Go.Proofs.YtncmocmmkbmmjaaGreatDoor
open Go.RowKit Go.Shelf

section
variable {α : Type} {P : Program} {n : Nat}

/-- The iterator's contract: as the library's, but that the caller's word abides the iterator's own steps E. -/
def SeqE (n : Nat) (P : Program) (g : Nat) (lb : Array Value) (encs : α → Array Value) (Kp E : World → World → Prop) (S Sp : List α → Prop) (N : Nat) (w : World) : Prop :=
  ∀ (l : Nat) (J Jx : List α → World → Prop) (W : World), Below w.heap.size w W → (∀ pre A B, J pre A → E A B → J pre B) → (∀ pre A B, Jx pre A → E A B → Jx pre B) →
    (∀ pre x A, J pre A → pre.length < N → YieldAt Fence.wide (n - 1) P l (encs x) A fun e B => (e = .returned (.bool true) ∧ J (pre ++ [x]) B ∧ Kp A B) ∨ (e = .returned (.bool false) ∧ Jx (pre ++ [x]) B)) →
    J [] W → CallsIn Fence.wide n P g (#[.func (.yield l) #[] #[]] ++ lb) W fun e B => (∃ v, e = .returned v) ∧ ((∃ xs, S xs ∧ J xs B) ∨ (∃ pre, Sp pre ∧ Jx pre B))

/-- The two blocks that a loop's own book-keeping lays: the record at D + 1, the rounds' deferred calls at D. -/
def Book (D : Nat) (r : Loop) (W : World) : Prop := W.heap[D + 1]? = some (.loop r) ∧ W.heap[D]? = some (.deferred (some []))
theorem Book.put {D : Nat} {r : Loop} {W : World} (h : Book D r W) (r' : Loop) : Book D r' (W.putObj (D + 1) (.loop r')) :=
  ⟨World.putObj_heap_same (Array.getElem?_eq_some_iff.1 h.1).1, (World.putObj_heap_other (by omega)).trans h.2⟩
theorem Book.from {D B : Nat} {r : Loop} {W W' : World} (h : Book D r W) (hB : B ≤ D) (hk : KeepsFrom B W W') : Book D r W' := ⟨hk.same _ _ (by omega) h.1 rfl, hk.same _ _ hB h.2 rfl⟩

/-- How a round ends: it goes on, or it is left by a jump. -/
def jumpOf : Exit → Option Code
  | .ret => some .ret
  | .exit id => some (.exit id)
  | .goto t => some (.goto t)
  | _ => none

theorem round_end {D : Nat} {r : Loop} {W W' : World} (hb : Book D r W) (jump : Option Code) (hk : KeepsFrom D W W') :
    (Instr.endRound (D + 1) jump).run P W' = .ok (.bool jump.isNone) (W'.putObj (D + 1) (.loop { r with state := if jump.isNone then .ready else .done, pending := jump })) ∧
    W'.heap[D + 1]? = some (.loop r) ∧ Book D { r with state := if jump.isNone then .ready else .done, pending := jump } (W'.putObj (D + 1) (.loop { r with state := if jump.isNone then .ready else .done, pending := jump })) :=
  have hb' := hb.from (Nat.le_refl _) hk
  ⟨run_endRound jump hb'.1, hb'.1, hb'.put _⟩

theorem range_law {g : Operand} {ps : Array Tmp} {assign body : Code} {Q : Exit → Act → World → Prop} {a : Act} {w : World} (h1 : 1 ≤ n) {gf : Nat} {lb : Array Value} (hg : a.eval g = .func (.func gf) #[] lb)
    (eg : ∀ args w, (callFunc gf args).run P w = .ok (.enter gf args) w) {encs : α → Array Value} {Kp E : World → World → Prop} {S Sp : List α → Prop} {N : Nat} (hseq : SeqE (n - 1) P gf lb encs Kp E S Sp N w)
    (hKt : ∀ {A B C : World}, Kp A B → Kp B C → Kp A C) (hKb : ∀ (W : World) (l : Nat) (o o' : Obj), w.heap.size ≤ l → W.heap[l]? = some o → o.isCells = false → o.isWalk = false → Kp W (W.putObj l o'))
    (hE : ∀ A B, E A B → KeepsFrom w.heap.size A B) (hps : ∀ x, (encs x).size = ps.size)
    (I : List α → World → Prop) (Ix : Code → List α → World → Prop) (hI : OwnFrom w.heap.size I) (hIx : ∀ c, OwnFrom w.heap.size (Ix c)) (hIE : ∀ pre A B, I pre A → E A B → I pre B) (hIxE : ∀ c pre A B, Ix c pre A → E A B → Ix c pre B)
    (h0 : I [] w) (a₁ : α → Act)
    (hassign : ∀ (l : Nat) (x : α) (W : World) (K : Act → World → Prop), K (a₁ x) W →
      assign.wpIn (Fence.wide.inRound l) (n - 1 - 1) P (Exit.then K (fun _ _ _ => False)) { tmps := (ps.zip (encs x)).foldl (fun t (p, v) => t.setIfInBounds p v) a.tmps, defers := [] } W)
    (hbody : ∀ (l : Nat) (pre : List α) (x : α) (W : World), I pre W → pre.length < N → body.wpIn (Fence.wide.inRound l) (n - 1 - 1) P (ownPostG w.heap.size Kp I Ix (pre ++ [x]) W) (a₁ x) W)
    (hdone : ∀ (D : Nat) (xs : List α) (W : World), w.heap.size ≤ D → S xs → I xs W → W.heap[D]? = some (.deferred (some [])) → Q .normal { a with defers := { target := .collected D, args := #[] } :: a.defers } W)
    (hstop : ∀ (D : Nat) (c : Code) (pre : List α) (W : World), w.heap.size ≤ D → Sp pre → Ix c pre W → W.heap[D]? = some (.deferred (some [])) → c.wpIn Fence.wide n P Q { a with defers := { target := .collected D, args := #[] } :: a.defers } W) :
    (Code.rangeFunc g ps assign body).wpIn Fence.wide n P Q a w := by
  refine wpIn_rangeFunc fun fn _ => ?_
  generalize hD : w.heap.size = D at *
  let r : Loop := { state := .ready, pending := none, fn, tmps := a.tmps, params := ps, assign, body, defers := D }
  let w1 : World := (w.alloc (.deferred (some []))).alloc (.loop r)
  have bk1 : Book D r w1 := by
    refine ⟨?_, ?_⟩
    · have := World.alloc_heap_new (w.alloc (.deferred (some []))) (.loop r)
      rwa [World.size_alloc, hD] at this
    · have := World.alloc_heap_new w (.deferred (some []))
      rw [hD] at this
      exact (Below.heap_alloc _ _ _ (by simp; omega)).trans this
  have i1 : I [] w1 := hI.alloc _ (hI.alloc _ h0)
  have b1 : Below w.heap.size w w1 := ((Below.refl _ w).alloc (Nat.le_refl _) _).alloc (by simp) _
  refine ⟨D + 1, [{ target := .collected D, args := #[] }], w1, { target := .fn (.func gf) lb, args := #[.func (.yield (D + 1)) #[] #[]] }, w1, gf, #[.func (.yield (D + 1)) #[] #[]] ++ lb, w1, ?_, ?_, fun _ _ => trivial, ?_, fun _ => h1, ?_⟩
  · rw [← hD]
    have := run_enterLoop_outer (P := P) (w := w) fn a.tmps ps assign body
    simp only [w1, r, ← hD]
    exact this
  · simp only [resolve, hg]
    simp [go_sem]
  · simp [invoke, go_sem, eg]
  · refine (hseq (D + 1) (fun pre W => I pre W ∧ Book D r W) (fun pre W => ∃ c, Ix c pre W ∧ Book D { r with state := .done, pending := some c } W) w1 b1
      (fun pre A B h e => ⟨hIE pre A B h.1 e, h.2.from (Nat.le_refl _) (hE A B e)⟩)
      (fun pre A B h e => let ⟨c, hc, hb⟩ := h; ⟨c, hIxE c pre A B hc e, hb.from (Nat.le_refl _) (hE A B e)⟩) ?_ ⟨i1, bk1⟩).mono ?_
    · rintro pre x W ⟨hi, hb⟩ hlen
      refine ⟨fn, _, assign, body, run_yield hb.1 (hps x), roundIn_of_wpIn trivial (hassign _ x W _ ⟨_, run_beginRound hb.1 rfl, ?_⟩)⟩
      have hb2 := hb.put { r with state := .busy }
      have k2 : Kp W (W.putObj (D + 1) (.loop { r with state := .busy })) := hKb _ _ _ _ (by omega) hb.1 rfl rfl
      refine wpIn_mono (hbody _ pre x _ (hI.putObj _ hi (by omega) hb.1 rfl) hlen) fun e a3 W3 hp => ?_
      have left : ∀ c, KeepsFrom D (W.putObj (D + 1) (.loop { r with state := .busy })) W3 → Ix c (pre ++ [x]) W3 → ∃ v W4, (Instr.endRound (D + 1) (some c)).run P W3 = .ok v W4 ∧ ((Ending.returned v = .returned (.bool true) ∧ (I (pre ++ [x]) W4 ∧ Book D r W4) ∧ Kp W W4) ∨ (Ending.returned v = .returned (.bool false) ∧ ∃ c, Ix c (pre ++ [x]) W4 ∧ Book D { r with state := .done, pending := some c } W4)) := fun c hk hi3 => by
        obtain ⟨hr, hl, hb4⟩ := round_end (P := P) hb2 (some c) hk
        exact ⟨_, _, hr, .inr ⟨rfl, c, (hIx c).putObj _ hi3 (by omega) hl rfl, hb4⟩⟩
      cases e with
      | normal =>
        obtain ⟨hk, hkp, hi3⟩ := hp
        obtain ⟨hr, hl, hb4⟩ := round_end (P := P) hb2 none hk
        exact ⟨_, _, hr, .inl ⟨rfl, ⟨hI.putObj _ hi3 (by omega) hl rfl, hb4⟩, hKt (hKt k2 hkp) (hKb _ _ _ _ (by omega) hl rfl rfl)⟩⟩
      | ret => exact left _ hp.1 hp.2
      | exit id => exact left _ hp.1 hp.2
      | goto t => exact left _ hp.1 hp.2
      | panic _ => exact hp.elim
      | outgrown => exact hp.elim
    · rintro e W2 ⟨⟨v, rfl⟩, (⟨xs, hS, hi, hb⟩ | ⟨pre, hSp, c, hi, hb⟩)⟩
      · exact ⟨none, _, run_endLoop hb.1 (by simp [r]), hdone _ xs _ (Nat.le_refl _) hS (hI.putObj _ hi (by omega) hb.1 rfl) (hb.put _).2⟩
      · exact ⟨some c, _, run_endLoop hb.1 (by simp), hstop _ c pre _ (Nat.le_refl _) hSp ((hIx c).putObj _ hi (by omega) hb.1 rfl) (hb.put _).2⟩
end

end Go.Proofs.YtncmocmmkbmmjaaGreatDoor

/- strings.SplitSeq at a blank: the pieces of a text, as long as they are asked. Own work; no statement. -/
set_option linter.unusedSimpArgs false
set_option linter.unusedVariables false
namespace Go.Proofs.YtncmocmmkbmmjaaGreatDoor
open Go.RowKit Go.Shelf

attribute [local go_sem] Oper.semAt_some

/-- The pieces of a text between blanks. -/
def splitL : List UInt8 → List (List UInt8)
  | [] => [[]]
  | c :: r => if c = 32 then [] :: splitL r else
    match splitL r with
    | [] => [[c]]
    | x :: xs => (c :: x) :: xs

theorem splitL_ne (l : List UInt8) : splitL l ≠ [] := by
  cases l with
  | nil => simp [splitL]
  | cons c r =>
    simp only [splitL]
    split
    · simp
    · split <;> simp

theorem splitL_none : ∀ (l : List UInt8), Lib.indexByte l 32 = -1 → splitL l = [l]
  | [], _ => rfl
  | c :: r, h => by
    simp only [Lib.indexByte] at h
    by_cases hc : c = 32
    · subst hc; simp at h
    · have hc' : (c == 32) = false := by simp [hc]
      rw [hc'] at h
      simp only [Bool.false_eq_true, if_false] at h
      have hr : Lib.indexByte r 32 = -1 := by
        by_cases e : Lib.indexByte r 32 = -1
        · exact e
        · have e' : (Lib.indexByte r 32 == -1) = false := by simp [e]
          rw [e'] at h
          simp only [Bool.false_eq_true, if_false] at h
          have := Lib.indexByte_ge r 32
          omega
      simp only [splitL]
      rw [if_neg hc, splitL_none r hr]

theorem splitL_some : ∀ (l : List UInt8) (i : Nat), Lib.indexByte l 32 = i → i < l.length ∧ splitL l = l.take i :: splitL (l.drop (i + 1))
  | [], i, h => by simp [Lib.indexByte] at h
  | c :: r, i, h => by
    simp only [Lib.indexByte] at h
    by_cases hc : c = 32
    · subst hc
      simp at h
      have h0 : i = 0 := by omega
      subst h0
      simp [splitL]
    · have hc' : (c == 32) = false := by simp [hc]
      rw [hc'] at h
      simp only [Bool.false_eq_true, if_false] at h
      by_cases e : Lib.indexByte r 32 = -1
      · rw [e] at h; simp at h
      · have e' : (Lib.indexByte r 32 == -1) = false := by simp [e]
        rw [e'] at h
        simp only [Bool.false_eq_true, if_false] at h
        have := Lib.indexByte_ge r 32
        cases i with
        | zero => omega
        | succ i =>
          obtain ⟨h1, h2⟩ := splitL_some r i (by omega)
          refine ⟨by simp; omega, ?_⟩
          simp only [splitL]
          rw [if_neg hc, h2]
          simp

set_option maxHeartbeats 400000 in
theorem splitSeq_calls (s : ByteArray) (w : World) :
    Calls Tryz.prog 123 #[.string s, .string ⟨#[32]⟩] w fun e w' => e = .returned (.func (.func 138) #[] #[.pointer (some ⟨w.heap.size + 1, 0, none⟩), .pointer (some ⟨w.heap.size, 0, none⟩), .pointer (some ⟨w.heap.size + 2, 0, none⟩)]) ∧
      w' = ((w.alloc (.cells #[.string s] 9)).alloc (.cells #[.string ⟨#[32]⟩] 9)).alloc (.cells #[.int .i64 0] 3) := by
  have hmf : ∀ (fn : Fn) (first cap : Array Value) (w : World), (Instr.makeFunc fn first cap).run Tryz.prog w = .ok (.func fn first cap) w := fun _ _ _ _ => rfl
  go_enter Tryz.func123, Tryz.ntmps123
  go_wp2
  go_ret
  exact ⟨rfl, rfl⟩

/-- A text that is not too long for any count. -/
abbrev Word : Type := { x : List UInt8 // x.length ≤ 1099511627776 }

/-- The three boxes that the sequence goes by. -/
def IsSplit (W : World) (b : Nat) (s : List UInt8) : Prop := Boxed W b 9 (.string ⟨s.toArray⟩) ∧ Boxed W (b + 1) 9 (.string ⟨#[32]⟩) ∧ Boxed W (b + 2) 3 (.int .i64 0)
def KeepsThree (b : Nat) (W W' : World) : Prop := W'.heap[b]? = W.heap[b]? ∧ W'.heap[b + 1]? = W.heap[b + 1]? ∧ W'.heap[b + 2]? = W.heap[b + 2]?
theorem keepsThree_t {b : Nat} {A B C : World} (h : KeepsThree b A B) (k : KeepsThree b B C) : KeepsThree b A C := ⟨k.1.trans h.1, k.2.1.trans h.2.1, k.2.2.trans h.2.2⟩
theorem keepsThree_b {b n : Nat} (hg : b + 2 < n) (W : World) (l : Nat) (o o' : Obj) (hl : n ≤ l) (h1 : W.heap[l]? = some o) (h2 : o.isCells = false) (h3 : o.isWalk = false) : KeepsThree b W (W.putObj l o') :=
  ⟨keepsRow_b (by omega) W l o o' hl h1 h2 h3, keepsRow_b (by omega) W l o o' hl h1 h2 h3, keepsRow_b hg W l o o' hl h1 h2 h3⟩
theorem IsSplit.keep {b : Nat} {W W' : World} {s : List UInt8} (h : IsSplit W b s) (k : KeepsThree b W W') : IsSplit W' b s := ⟨k.1.trans h.1, k.2.1.trans h.2.1, k.2.2.trans h.2.2⟩
theorem IsSplit.set {b : Nat} {W : World} {s : List UInt8} (h : IsSplit W b s) (s' : List UInt8) : IsSplit (W.setCell ⟨b, 0, none⟩ (.string ⟨s'.toArray⟩)) b s' :=
  ⟨h.1.set _, boxed_of_heap h.2.1 (Below.heap_setCell _ _ _ _ (show b + 1 ≠ b by omega)), boxed_of_heap h.2.2 (Below.heap_setCell _ _ _ _ (show b + 2 ≠ b by omega))⟩

def strLen (W : World) (b : Nat) : Nat := match W.cell? ⟨b, 0, none⟩ with | some (.string s) => s.size | _ => 0
theorem strLen_of {W : World} {b : Nat} {s : List UInt8} (h : IsSplit W b s) : strLen W b = s.length := by
  unfold strLen
  rw [h.1.cell]
  simp [ByteArray.size]

theorem extract_list (l : List UInt8) (i j : Nat) : (⟨l.toArray⟩ : ByteArray).extract i j = ⟨((l.drop i).take (j - i)).toArray⟩ := by
  apply ByteArray.ext
  simp [ByteArray.data_extract]
theorem extract_head (l : List UInt8) (i : Nat) : (⟨l.toArray⟩ : ByteArray).extract 0 i = ⟨(l.take i).toArray⟩ := by rw [extract_list]; simp
theorem extract_tail (l : List UInt8) (i j : Nat) (h : j = l.length) : (⟨l.toArray⟩ : ByteArray).extract i j = ⟨(l.drop i).toArray⟩ := by rw [extract_list, h, List.take_of_length_le (by simp)]

set_option maxRecDepth 100000 in
set_option maxHeartbeats 2000000 in
theorem split1_in (n : Nat) (hn : 1 ≤ n) (lp b : Nat) (s : List UInt8) (hlen : s.length ≤ 1099511627776) (J Jx : List Word → World → Prop)
    (hJ : ∀ pre A v, J pre A → J pre (A.setCell ⟨b, 0, none⟩ v))
    (hY : ∀ pre x W, J pre W → pre.length < (splitL s).length → YieldAt Fence.wide (n - 1) Tryz.prog lp #[.string ⟨x.1.toArray⟩] W fun e W' =>
      (e = .returned (.bool true) ∧ J (pre ++ [x]) W' ∧ KeepsThree b W W') ∨ (e = .returned (.bool false) ∧ Jx (pre ++ [x]) W'))
    (W : World) (hA : IsSplit W b s) (h0 : J [] W) :
    CallsIn Fence.wide n Tryz.prog 138 #[.func (.yield lp) #[] #[], .pointer (some ⟨b + 1, 0, none⟩), .pointer (some ⟨b, 0, none⟩), .pointer (some ⟨b + 2, 0, none⟩)] W fun e W' => (∃ v, e = .returned v) ∧
      ((∃ ys, ys.map (·.1) = splitL s ∧ J ys W') ∨ (∃ pre, pre.map (·.1) <+: splitL s ∧ Jx pre W')) := by
  refine callsIn_of_wp Tryz.func138 rfl trivial ?_ rfl
  simp only [Tryz.ntmps138, List.size_toArray, List.length_cons, List.length_nil, Nat.reduceAdd, Nat.reduceSub, Array.replicate_succ, Array.replicate_zero, List.push_toArray, List.append_toArray, List.nil_append, List.cons_append]
  have HY := hide hY
  have HJ := hide hJ
  clear hY hJ
  have q1 := hA.2.1.cell
  gi_wp2
  gi_loopw [7] (fun _ wr => ∃ (pre : List Word) (rest : List UInt8), splitL s = pre.map (·.1) ++ splitL rest ∧ rest.length ≤ 1099511627776 ∧ IsSplit wr b rest ∧ J pre wr) (fun _ wr => strLen wr b)
  case atStart => exact ⟨[], s, rfl, hlen, hA, h0⟩
  case round =>
    obtain ⟨pre, rest, hs, hl, hI, hJs⟩ := hrel
    replace hs := hide hs
    clear q1
    have c1 := hI.1.cell
    have c2 := hI.2.1.cell
    have c3 := hI.2.2.cell
    have f1 := hI.1.frozen
    by_cases hi : Lib.indexByte rest 32 = -1
    · have hsp := hide (splitL_none rest hi)
      have HI := hide hi
      clear hi
      obtain ⟨fn, tmps, assign, body, hy, hR⟩ := HY.out pre ⟨rest, hl⟩ wr hJs (by rw [hs.out, hsp.out]; simp)
      dsimp only at hy
      gi_wp2_with (refine ⟨trivial, ?_⟩; gi_at_call 140; refine ((callsIn_wide (n := _)).2 (Tryz.strings_Index_one ⟨rest.toArray⟩ 32 wr)).mono ?_; rintro e w' ⟨rfl, rfl⟩; rw [show (⟨rest.toArray⟩ : ByteArray).data.toList = rest from rfl, HI.out])
      refine hR.mono ?_
      rintro e W3 (⟨rfl, hJ3, hk3⟩ | ⟨rfl, hJx3⟩)
      · gi_wp2
        go_end0
        exact ⟨⟨_, rfl⟩, .inl ⟨_, by rw [hs.out, hsp.out]; simp, hJ3⟩⟩
      · gi_wp2
        go_end0
        exact ⟨⟨_, rfl⟩, .inr ⟨_, by rw [hs.out, hsp.out]; simp, hJx3⟩⟩
    · have hge := Lib.indexByte_ge rest 32
      obtain ⟨i, hi'⟩ := Int.eq_ofNat_of_zero_le (show 0 ≤ Lib.indexByte rest 32 by omega)
      obtain ⟨hil, hsp⟩ := splitL_some rest i hi'
      replace hsp := hide hsp
      have HI := hide hi'
      clear hi hi' hge
      have hilI : (i : Int) < (rest.length : Int) := by omega
      have hx1 := extract_head rest i
      obtain ⟨fn, tmps, assign, body, hy, hR⟩ := HY.out pre ⟨rest.take i, by rw [List.length_take]; omega⟩ wr hJs (by rw [hs.out, hsp.out]; simp)
      dsimp only at hy
      gi_wp2_with (refine ⟨trivial, ?_⟩; gi_at_call 140; refine ((callsIn_wide (n := _)).2 (Tryz.strings_Index_one ⟨rest.toArray⟩ 32 wr)).mono ?_; rintro e w' ⟨rfl, rfl⟩; rw [show (⟨rest.toArray⟩ : ByteArray).data.toList = rest from rfl, HI.out])
      gi_wp2
      refine hR.mono ?_
      rintro e W3 (⟨rfl, hJ3, hk3⟩ | ⟨rfl, hJx3⟩)
      · have hI3 := hI.keep hk3
        have d1 := hI3.1.cell
        have d2 := hI3.2.1.cell
        have d4 := hI3.1.frozen
        gi_wp2
        rw [extract_tail rest (i + 1) rest.length rfl]
        have hI4 := hI3.set (rest.drop (i + 1))
        exact ⟨⟨_, _, by rw [hs.out, hsp.out, List.map_append, List.append_assoc]; rfl, by simp; omega, hI4, HJ.out _ _ _ hJ3⟩, by rw [strLen_of hI4, strLen_of hI]; simp; omega⟩
      · gi_wp2
        refine bodyPost_ret (results_none rfl _ _ _) rfl ?_
        exact ⟨⟨_, rfl⟩, .inr ⟨_, by rw [hs.out, hsp.out]; exact ⟨splitL (rest.drop (i + 1)), by simp⟩, hJx3⟩⟩

/-- The iterator's own steps: it writes its own variable, box b. -/
def Turns (b : Nat) (A B : World) : Prop := ∃ v, B = A.setCell ⟨b, 0, none⟩ v

theorem split_stops (n : Nat) (hn : 1 ≤ n) (b : Nat) (s : List UInt8) (hlen : s.length ≤ 1099511627776) (w : World) (hA : IsSplit w b s) :
    SeqE n Tryz.prog 138 #[.pointer (some ⟨b + 1, 0, none⟩), .pointer (some ⟨b, 0, none⟩), .pointer (some ⟨b + 2, 0, none⟩)] (fun x : Word => #[Value.string ⟨x.1.toArray⟩]) (KeepsThree b) (Turns b) (fun ys => ys.map (·.1) = splitL s)
      (fun pre => pre.map (·.1) <+: splitL s) (splitL s).length w := fun lp J Jx W hW hJ _ hY h0 =>
  split1_in n hn lp b s hlen J Jx (fun pre A v h => hJ pre A _ h ⟨v, rfl⟩) hY W
    ⟨(hW.block b hA.1.lt).trans hA.1, (hW.block (b + 1) hA.2.1.lt).trans hA.2.1, (hW.block (b + 2) hA.2.2.lt).trans hA.2.2⟩ h0

end Go.Proofs.YtncmocmmkbmmjaaGreatDoor

/- num's Decimal and Parse: a number in words. Own work; no statement. -/
set_option linter.unusedSimpArgs false
set_option linter.unusedVariables false
namespace Go.Proofs.YtncmocmmkbmmjaaGreatDoor
open Go.RowKit Go.Shelf

/-- Is it a digit? -/
def digB (c : UInt8) : Bool := decide (48 ≤ c.toNat ∧ c.toNat ≤ 57)
/-- Digits' number, but no more than MaxSeq + 1. -/
def decTo : List UInt8 → Int → Int
  | [], n => n
  | c :: r, n => decTo r (min (n * 10 + ((c.toNat : Int) - 48)) 1048577)
/-- Digits' number, but no more than m + 1. -/
def decToM (m : Int) : List UInt8 → Int → Int
  | [], n => n
  | c :: r, n => decToM m r (min (n * 10 + ((c.toNat : Int) - 48)) (m + 1))
theorem decToM_eq : ∀ (l : List UInt8) (n : Int), decToM 1048576 l n = decTo l n
  | [], _ => rfl
  | _ :: l, _ => decToM_eq l _
theorem decToM_snoc (m : Int) : ∀ (l : List UInt8) (c : UInt8) (n : Int), decToM m (l ++ [c]) n = min (decToM m l n * 10 + ((c.toNat : Int) - 48)) (m + 1)
  | [], _, _ => rfl
  | _ :: l, c, _ => decToM_snoc m l c _
/-- Digits, at least one, without leading noughts. -/
def decOk (l : List UInt8) : Bool := !l.isEmpty && !(decide (1 < l.length) && l.head? == some 48) && l.all digB

theorem decTo_snoc : ∀ (l : List UInt8) (c : UInt8) (n : Int), decTo (l ++ [c]) n = min (decTo l n * 10 + ((c.toNat : Int) - 48)) 1048577
  | [], _, _ => rfl
  | _ :: l, c, _ => decTo_snoc l c _

theorem decTo_range : ∀ (l : List UInt8) (n : Int), (∀ c ∈ l, digB c = true) → 0 ≤ n → n ≤ 1048577 → 0 ≤ decTo l n ∧ decTo l n ≤ 1048577
  | [], n, _, h0, h1 => ⟨h0, h1⟩
  | c :: l, n, h, h0, h1 => by
    have hc := h c (by simp)
    simp only [digB, decide_eq_true_eq] at hc
    exact decTo_range l _ (fun d hd => h d (by simp [hd])) (by omega) (by omega)

theorem decToM_range {m : Int} (hm : 0 ≤ m) : ∀ (l : List UInt8) (n : Int), (∀ c ∈ l, digB c = true) → 0 ≤ n → n ≤ m + 1 → 0 ≤ decToM m l n ∧ decToM m l n ≤ m + 1
  | [], n, _, h0, h1 => ⟨h0, h1⟩
  | c :: l, n, h, h0, h1 => by
    have hc := h c (by simp)
    simp only [digB, decide_eq_true_eq] at hc
    exact decToM_range hm l _ (fun d hd => h d (by simp [hd])) (by omega) (by omega)

theorem take_snoc_byte (s : ByteArray) (k : Nat) (h : k < s.size) : s.data.toList.take (k + 1) = s.data.toList.take k ++ [s[k]] := by
  rw [List.take_succ_eq_append_getElem (by simpa using h)]; rfl

theorem decOk_long (s : ByteArray) (h1 : 1 < s.size) (h0 : s[0] = 48) : decOk s.data.toList = false := by
  have : s.data.toList.head? = some 48 := by
    rw [List.head?_eq_getElem?, List.getElem?_eq_getElem (by simpa using (show 0 < s.size by omega))]
    exact congrArg some h0
  have hl : 1 < s.data.toList.length := by simpa using h1
  simp only [decOk, this, hl]
  simp

theorem decOk_not (s : ByteArray) (k : Nat) (h : k < s.size) (hd : digB s[k] = false) : decOk s.data.toList = false := by
  have hm : s[k] ∈ s.data.toList := by
    have : s[k] = s.data.toList[k]'(by simpa using h) := rfl
    rw [this]
    exact List.getElem_mem _
  have : s.data.toList.all digB = false := by
    rw [List.all_eq_false]
    exact ⟨_, hm, by rw [hd]; simp⟩
  simp [decOk, this]

theorem decOk_yes (s : ByteArray) (h0 : 0 < s.size) (h1 : ¬ (1 < s.size ∧ s[0] = 48)) (hall : ∀ c ∈ s.data.toList, digB c = true) : decOk s.data.toList = true := by
  have hne : s.data.toList.isEmpty = false := by
    cases h : s.data.toList with
    | nil => have := Lib.size_eq s; rw [h] at this; simp at this; exact absurd h0 (by rw [this]; exact Nat.lt_irrefl 0)
    | cons _ _ => rfl
  have hh : (decide (1 < s.data.toList.length) && s.data.toList.head? == some 48) = false := by
    rw [Bool.and_eq_false_iff]
    by_cases hl : 1 < s.size
    · right
      rw [List.head?_eq_getElem?, List.getElem?_eq_getElem (by simpa using h0)]
      have : ¬ s[0] = 48 := fun e => h1 ⟨hl, e⟩
      rw [beq_eq_false_iff_ne]
      intro e
      exact this (Option.some.inj e)
    · left
      simp
      have : s.size = s.data.size := rfl
      omega
  have ha : s.data.toList.all digB = true := List.all_eq_true.2 hall
  simp only [decOk, hne, hh, ha]
  rfl

set_option maxHeartbeats 1000000 in
theorem decimalM_calls (m : Int) (s : ByteArray) (w : World) (hm : 0 ≤ m) (hm2 : m ≤ 2147483647) (hs : s.size ≤ 1099511627776) :
    Calls Tryz.prog 99 #[.string s, .int .i64 m] w fun e w' => e = .returned (.tuple #[.int .i64 (if decOk s.data.toList then decToM m s.data.toList 0 else 0), .bool (decOk s.data.toList)]) ∧ w' = w := by
  obtain ⟨n, b, hn, hb⟩ : ∃ n b, (if decOk s.data.toList then decToM m s.data.toList 0 else 0) = n ∧ decOk s.data.toList = b := ⟨_, _, rfl, rfl⟩
  rw [hn, hb]
  have Hn := hide hn
  have Hb := hide hb
  clear hn hb
  by_cases h0 : s.size = 0
  · have e : s = ⟨#[]⟩ := ByteArray.ext (Array.eq_empty_of_size_eq_zero h0)
    subst e
    have e1 : n = 0 := Hn.out.symm
    have e2 : b = false := Hb.out.symm
    subst e1 e2
    go_enter Tryz.func99, Tryz.ntmps99
    go_wp2
    go_ret2
    exact ⟨rfl, rfl⟩
  · have hne : s.toList.isEmpty = false := by
      rw [Lib.toList_data]
      cases h : s.data.toList with
      | nil => have := Lib.size_eq s; rw [h] at this; exact absurd this (by simpa using h0)
      | cons _ _ => rfl
    have h0' : 0 < s.size := by omega
    have h0I : (0 : Int) < (s.size : Int) := by omega
    by_cases h1 : 1 < s.size ∧ s[0] = 48
    · obtain ⟨h1, h2⟩ := h1
      have e := decOk_long s h1 h2
      have e1 : n = 0 := by rw [← Hn.out, e]; rfl
      have e2 : b = false := by rw [← Hb.out, e]
      subst e1 e2
      have h1I : (1 : Int) < (s.size : Int) := by omega
      have h3 : (((s[0].toNat : Nat) : Int) == 48) = true := by rw [h2]; rfl
      clear e h2 h0
      go_enter Tryz.func99, Tryz.ntmps99
      go_wp2
      go_ret2
      exact ⟨rfl, rfl⟩
    · have hcase : ((1 : Int) < (s.size : Int) → (((s[0].toNat : Nat) : Int) == 48) = false) := by
        intro hl
        rw [beq_eq_false_iff_ne]
        intro e
        exact h1 ⟨by omega, UInt8.toNat_inj.1 (by simp; omega)⟩
      have H1 := hide h1
      clear h1 h0
      by_cases hl : (1 : Int) < (s.size : Int)
      case' pos => have hc48 := hcase hl
      all_goals
        clear hcase
        go_enter Tryz.func99, Tryz.ntmps99
        go_wp2
        go_loop [6, 23] (fun x i => ∃ k : Nat, k ≤ s.size ∧ i = .int .i64 (k : Int) ∧ x = .int .i64 (decToM m (s.data.toList.take k) 0) ∧ ∀ c ∈ s.data.toList.take k, digB c = true) (fun _ i => s.size - (intOf i).toNat)
        case atStart => exact ⟨0, Nat.zero_le _, rfl, rfl, by simp⟩
        case round =>
          obtain ⟨k, hk, rfl, rfl, hall⟩ := hrel
          have hr := decToM_range hm _ 0 hall (by omega) (by omega)
          replace hall := hide hall
          by_cases hkl : k < s.size
          · have hlt : (k : Int) < (s.size : Int) := by omega
            have hsn := decToM_snoc m (s.data.toList.take k) s[k] 0
            rw [← take_snoc_byte s k hkl] at hsn
            have hts := hide (take_snoc_byte s k hkl)
            replace hsn := hide hsn
            generalize decToM m (s.data.toList.take k) 0 = x at hr hsn
            obtain ⟨hr0, hr1⟩ := hr
            by_cases hd : 48 ≤ s[k].toNat ∧ s[k].toNat ≤ 57
            · have hd1 : ¬ ((s[k].toNat : Nat) : Int) < 48 := by omega
              have hd2 : ¬ 57 < ((s[k].toNat : Nat) : Int) := by omega
              have hdg := hide (show digB s[k] = true by unfold digB; simpa using hd)
              obtain ⟨hda, hdb⟩ := hd
              go_wp2
              refine ⟨⟨k + 1, by omega, by go_num, by rw [hsn.out], fun c hc => ?_⟩, by simp [intOf]; omega⟩
              rw [hts.out] at hc
              rcases List.mem_append.1 hc with hc | hc
              · exact hall.out c hc
              · rw [List.mem_singleton.1 hc]; exact hdg.out
            · have hno := decOk_not s k hkl (by unfold digB; simpa using hd)
              have e1 : n = 0 := by rw [← Hn.out, hno]; rfl
              have e2 : b = false := by rw [← Hb.out, hno]
              subst e1 e2
              clear hno
              by_cases hd1 : ((s[k].toNat : Nat) : Int) < 48
              · go_wp2
                go_ret2
                exact ⟨rfl, rfl⟩
              · have hd2 : 57 < ((s[k].toNat : Nat) : Int) := by omega
                clear hd
                go_wp2
                go_ret2
                exact ⟨rfl, rfl⟩
          · have e : s.data.toList.take k = s.data.toList := List.take_of_length_le (by rw [← Lib.size_eq]; omega)
            have hy : decOk s.data.toList = true := decOk_yes s h0' H1.out (by have := hall.out; rwa [e] at this)
            have e1 : n = decToM m (s.data.toList.take k) 0 := by rw [← Hn.out, hy, e]; rfl
            have e2 : b = true := by rw [← Hb.out, hy]
            subst e1 e2
            clear hy e
            go_wp2
            go_ret2
            exact ⟨rfl, rfl⟩

theorem decimal_calls (s : ByteArray) (w : World) (hs : s.size ≤ 1099511627776) :
    Calls Tryz.prog 99 #[.string s, .int .i64 1048576] w fun e w' => e = .returned (.tuple #[.int .i64 (if decOk s.data.toList then decTo s.data.toList 0 else 0), .bool (decOk s.data.toList)]) ∧ w' = w := by
  have h := decimalM_calls 1048576 s w (by omega) (by omega) hs
  rw [decToM_eq] at h
  exact h

/-- A number up to 2^31 - 1 in words: the number, and whether it is one. -/
def numL (l : List UInt8) : Int × Bool := if decOk l = true ∧ decToM 2147483647 l 0 ≤ 2147483647 then (decToM 2147483647 l 0, true) else (0, false)

set_option maxHeartbeats 1000000 in
theorem numParse_calls (s : ByteArray) (w : World) (hs : s.size ≤ 1099511627776) :
    Calls Tryz.prog 88 #[.string s] w fun e w' => e = .returned (.tuple #[.int .i64 (numL s.data.toList).1, .bool (numL s.data.toList).2]) ∧ w' = w := by
  obtain ⟨p, hp⟩ : ∃ p, numL s.data.toList = p := ⟨_, rfl⟩
  rw [hp]
  unfold numL at hp
  have hd := decimalM_calls 2147483647 s w (by omega) (by omega) hs
  generalize decToM 2147483647 s.data.toList 0 = n at hp hd
  cases hk : decOk s.data.toList with
  | false =>
    rw [hk] at hp hd
    rw [if_neg (by simp)] at hp
    rw [if_neg (by simp)] at hd
    subst hp
    have Hd := hide hd
    clear hd hk
    go_enter Tryz.func88, Tryz.ntmps88
    go_wp2_with (go_at_call 99; refine Hd.out.mono ?_; rintro e w' ⟨rfl, rfl⟩)
    go_ret2
    exact ⟨rfl, rfl⟩
  | true =>
    rw [hk] at hp hd
    rw [if_pos rfl] at hd
    have Hd := hide hd
    clear hd hk
    by_cases hn : n ≤ 2147483647
    · rw [if_pos ⟨rfl, hn⟩] at hp
      subst hp
      have hn' : ¬ 2147483647 < n := by omega
      clear hn
      go_enter Tryz.func88, Tryz.ntmps88
      go_wp2_with (go_at_call 99; refine Hd.out.mono ?_; rintro e w' ⟨rfl, rfl⟩)
      go_ret2
      exact ⟨rfl, rfl⟩
    · rw [if_neg (by omega)] at hp
      subst hp
      have hn' : 2147483647 < n := by omega
      clear hn
      go_enter Tryz.func88, Tryz.ntmps88
      go_wp2_with (go_at_call 99; refine Hd.out.mono ?_; rintro e w' ⟨rfl, rfl⟩)
      go_ret2
      exact ⟨rfl, rfl⟩

end Go.Proofs.YtncmocmmkbmmjaaGreatDoor
