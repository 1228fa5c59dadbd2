/- Own work: the parts W7, W8, W9, Range, RangeL, D1, D2 of the proof, laid together. -/
import Derived.Test.YtjbjjfndkpcciaaGreatDoorPartLogStripes1
import Derived.Test.YtjbjjfndkpcciaaGreatDoorShelf
import Derived.Laws.BytesArg
import Derived.Lib.ItoaLen
import Derived.Lib.AppendIntMem
import Derived.Lib.UnsafeStr
import Derived.RangeFuncNested
import Derived.RangeFuncBound
import Derived.RangeFuncCalls
import Derived.RangeFuncLeaves
import Derived.Shelf.Abstract
import Derived.Shelf.RegionOpen
import Derived.OwnWalkIn
import Derived.TacticsInMore
import Derived.LoopNIn
import Derived.LoopIn
import Derived.Maps.OwnIn
import Derived.StillTailTactics
import Derived.Deep.RegionHeld3
import Derived.Deep.RegionLaw
import Derived.Deep.AppendLies
/- The walk of vec's Text: a vector in words. Own work; no statement. -/
set_option linter.unusedSimpArgs false
set_option linter.unusedVariables false
namespace Go.Proofs.YtjbjjfndkpcciaaGreatDoor
open Go.RowKit

theorem conv_row {P : Program} {w : World} {base n : Nat} {e src dst : TypeId} {v : Value} {bs : List UInt8} (h : w.ownsRow base e 1 v n (Lib.byteCells bs))
    (hs : P.underlying src = some (.slice e)) (he : P.underlying e = some (.int .u8)) (hd : P.underlying dst = some .string) : (convert src dst v).run P w = .ok (.string ⟨bs.toArray⟩) w := by
  have hn : bs.length = n := by simpa [Lib.byteCells] using h.1
  have e1 : strOfNums (bs.map fun b => (b.toNat : Int)) = ⟨bs.toArray⟩ := by
    have : (bs.map fun b => (b.toNat : Int)).map (fun n => UInt8.ofNat n.toNat) = bs := by
      rw [List.map_map]
      conv => rhs; rw [← List.map_id bs]
      apply List.map_congr_left
      intro b _
      simp
    unfold strOfNums
    rw [this]
  rcases h.2 with ⟨rfl, rfl⟩ | ⟨g, cap, cur, rfl, hb, hg, hnc, hcm, hcs, ht⟩
  · obtain rfl : bs = [] := List.eq_nil_of_length_eq_zero hn
    exact run_convert_bytes_nil w src e hs he 0 0 dst hd
  · rw [← e1]
    refine run_convert_bytes_arg w src e hs he g 0 n cap _ (by simpa using hn) (fun i hi => ?_) dst hd
    rw [Nat.zero_add, h.cellAt i (by omega)]
    simp [Lib.byteCells, List.getD, show i < bs.length by omega]

/-- The library's table of powers of ten lies where it lay, in this world and in all that come out of it. -/
def Pow (w : World) : Prop := Lib.TabBelow Tryz.prog w.heap.size w "internal/strconv.uint64pow10" .u64 Lib.pow10Tab
theorem Pow.below {w w' : World} (h : Pow w) (hb : Below w.heap.size w w') : Pow w' := fun w2 h2 => h w2 (hb.trans (h2.mono hb.size))

/-- The numbers are such as an int holds. -/
def InR (l : List Int) : Prop := ∀ x ∈ l, -9223372036854775808 ≤ x ∧ x ≤ 9223372036854775807

/-- The first k numbers in words, with blanks between. -/
def numsTo (l : List Int) : Nat → List UInt8
  | 0 => []
  | k + 1 => numsTo l k ++ ((if k = 0 then [] else [32]) ++ Lib.itoa (l.getD k 0))
/-- A vector in words. -/
def textL (l : List Int) : List UInt8 := 91 :: (numsTo l (writtenL l) ++ [93])

theorem getD_inR {l : List Int} (h : InR l) (k : Nat) : -9223372036854775808 ≤ l.getD k 0 ∧ l.getD k 0 ≤ 9223372036854775807 := by
  by_cases hk : k < l.length
  · rw [List.getD, List.getElem?_eq_getElem hk]
    exact h _ (List.getElem_mem hk)
  · rw [List.getD, List.getElem?_eq_none (by omega)]
    simp

theorem numsTo_length {l : List Int} (h : InR l) : ∀ k, (numsTo l k).length ≤ 22 * k
  | 0 => by simp [numsTo]
  | k + 1 => by
    have h1 := numsTo_length h k
    have h2 := Lib.itoa_length_le (l.getD k 0) (getD_inR h k).1 (getD_inR h k).2
    have h3 : ((if k = 0 then [] else [32] : List UInt8)).length ≤ 1 := by split <;> simp
    simp only [numsTo, List.length_append]
    omega

theorem snoc93 (l : List UInt8) : Lib.byteCells l ++ [.int .u8 93] = Lib.byteCells (l ++ [93]) := by simp [Lib.byteCells]
theorem snoc32 (l : List UInt8) : Lib.byteCells l ++ [.int .u8 32] = Lib.byteCells (l ++ [32]) := by simp [Lib.byteCells]

theorem Tryz.info5 : (Tryz.prog.info? 5).map (fun i => (i.zero, i.size, i.bytes)) = some (some (.int .u8 0), 1, 1) := by kernel_rfl

theorem written_nil : ((writtenL [] : Nat) : Int) = 0 := rfl

set_option maxHeartbeats 1000000 in
set_option maxRecDepth 20000 in
theorem text_calls (v : Value) (l : List Int) (w : World) (hv : IsNums .i64 w v l) (hl : l.length ≤ 4294967296) (hr : InR l) (hp : Pow w) :
    Calls Tryz.prog 144 #[v] w fun e w' => e = .returned (.string ⟨(textL l).toArray⟩) ∧ Below w.heap.size w w' := by
  obtain ⟨i0, hi, hz0, hz1, hz2⟩ := info_parts Tryz.info5
  have Hv := hide hv
  have hwl := writtenL_le l
  rcases hv.cases with ⟨rfl, a1, cap, rfl⟩ | ⟨b, o, cap, rfl, -, hcap, hb, hcell⟩
  · have hB0 : Below w.heap.size w (w.alloc (.cells #[.int .u8 91] 5)) := (Below.refl _ _).alloc (Nat.le_refl _) _
    have hown : (w.alloc (.cells #[.int .u8 91] 5)).ownsRow w.heap.size 5 1 (.slice (some ⟨w.heap.size, 0, none⟩) 1 1) 1 (Lib.byteCells [91]) := World.ownsRow_lit _ #[.int .u8 91] 1 (Nat.le_refl _) (by unfold maxLen; omega) rfl
    clear hv hr hp
    go_enter Tryz.func144, Tryz.ntmps144
    go_wp2_with (go_at_call 192; refine (written_calls _ [] _ (Hv.out.below hB0) (by simp)).mono ?_; rintro e w' ⟨rfl, rfl⟩; rw [written_nil])
    refine wp_loop_rounds 1 ?_
    rw [rounds_succ]
    have hbs := hB0.size
    go_wp2_with (at_builtin; refine wpList_append_own _ rfl (.tmp 26) _ 44 rfl w.heap.size 5 i0 (.int .u8 0) 1 1 Tryz.underlying44 hi hz0 hz1 hz2 rfl (by decide) _ _ _ rfl (hown.alloc _) ⟨_, 0, none⟩ 1 1 [.int .u8 93] rfl rfl (cell_one_at (by simp)) (by intro u hu; simp at hu; subst hu; rfl) (by unfold maxLen; omega) (by omega) (by simp; omega) ?_; intro v1 w1 hown1 hgrow1 _; rw [snoc93] at hown1; have hcv := conv_row (dst := 9) hown1 Tryz.underlying44 Tryz.underlying5 Tryz.underlying9)
    go_ret
    exact ⟨by simp [textL, writtenL, numsTo], (hB0.alloc hB0.size _).grown hgrow1 (by simp; omega) (fun j hj => (hown.lt j hj).1)⟩
  · obtain ⟨m, hm⟩ : ∃ m, writtenL l = m := ⟨_, rfl⟩
    have Hm := hide hm
    rw [hm] at hwl
    have Hcell := hide hcell
    have HR := hide hr
    have HP := hide hp
    clear hcell hv hr hp hm
    have hB0 : Below w.heap.size w (w.alloc (.cells #[.int .u8 91] 5)) := (Below.refl _ _).alloc (Nat.le_refl _) _
    have hown0 : (w.alloc (.cells #[.int .u8 91] 5)).ownsRow w.heap.size 5 1 (.slice (some ⟨w.heap.size, 0, none⟩) 1 1) 1 (Lib.byteCells [91]) := World.ownsRow_lit _ #[.int .u8 91] 1 (Nat.le_refl _) (by unfold maxLen; omega) rfl
    go_enter Tryz.func144, Tryz.ntmps144
    go_wp2_with (go_at_call 192; refine (written_calls _ l _ (Hv.out.below hB0) (by omega)).mono ?_; rintro e w' ⟨rfl, rfl⟩; rw [Hm.out])
    go_loopw [3, 12] (fun v i wr => ∃ k : Nat, i = .int .i64 (k : Int) ∧ k ≤ m ∧ wr.ownsRow w.heap.size 5 1 v (91 :: numsTo l k).length (Lib.byteCells (91 :: numsTo l k)) ∧ Below w.heap.size w wr) (fun _ i _ => m - (intOf i).toNat)
    case atStart => exact ⟨0, rfl, Nat.zero_le _, hown0, hB0⟩
    case round =>
      clear hown0 hB0
      obtain ⟨k, rfl, hkn, hown, hB⟩ := hrel
      have hnl : (numsTo l k).length ≤ 22 * k := numsTo_length HR.out k
      have hbs := hB.size
      obtain ⟨L, hL⟩ : ∃ L, 91 :: numsTo l k = L := ⟨_, rfl⟩
      rw [hL] at hown
      have hLl : L.length ≤ 22 * k + 1 := by rw [← hL]; simp; omega
      replace hL := hide hL
      by_cases hk : k < m
      · have hlt : (k : Int) < (m : Int) := by omega
        have hcl : wr.cell? ⟨b, o + k, none⟩ = _ := (hB.cell (p := ⟨b, o + k, none⟩) hb).trans (Hcell.out k (by omega))
        have hxr := getD_inR HR.out k
        generalize hx : l.getD k 0 = x at hcl hxr
        have hsucc : numsTo l (k + 1) = numsTo l k ++ ((if k = 0 then [] else [32]) ++ Lib.itoa x) := by rw [numsTo, hx]
        replace hsucc := hide hsucc
        replace hx := hide hx
        obtain ⟨hx0, hx1⟩ := hxr
        by_cases hk0 : k = 0
        · have hk1 : ¬ 0 < (k : Int) := by omega
          replace hk0 := hide hk0
          go_wp2_with (go_at_call 188; refine (Tryz.strconv_AppendInt_10 w.heap.size _ x hx0 hx1 _ _ _ hown hbs (by omega) (Lib.TabBelow.on HP.out hB)).mono ?_; rintro e w2 ⟨v2, rfl, hown2, hB2, -⟩)
          refine ⟨⟨k + 1, by go_num, by omega, ?_, hB.trans hB2⟩, by simp [intOf]; omega⟩
          rw [hsucc.out, if_pos hk0.out, List.nil_append, ← List.cons_append, hL.out, List.length_append, Lib.byteCells_append]
          exact hown2
        · have hk1 : 0 < (k : Int) := by omega
          go_wp2_with (first | (at_builtin; refine wpList_append_own _ rfl (.tmp 19) _ 44 rfl w.heap.size 5 i0 (.int .u8 0) 1 1 Tryz.underlying44 hi hz0 hz1 hz2 rfl (by decide) _ _ _ rfl (hown.alloc _) ⟨_, 0, none⟩ 1 1 [.int .u8 32] rfl rfl (cell_one_at (by simp)) (by intro u hu; simp at hu; subst hu; rfl) (by unfold maxLen; omega) (by omega) (by simp; omega) ?_; intro v1 w1 hown1 hgrow1 _; rw [snoc32] at hown1; have hB1 : Below w.heap.size w w1 := (hB.alloc hB.size _).grown hgrow1 (by simp; omega) (fun j hj => (hown.lt j hj).1); have hbs1 := hB1.size; clear hgrow1) | (go_at_call 188; refine (Tryz.strconv_AppendInt_10 w.heap.size _ x hx0 hx1 v1 _ w1 hown1 hbs1 (by omega) (Lib.TabBelow.on HP.out hB1)).mono ?_; rintro e w2 ⟨v2, rfl, hown2, hB2, -⟩))
          refine ⟨⟨k + 1, by go_num, by omega, ?_, hB1.trans hB2⟩, by simp [intOf]; omega⟩
          rw [hsucc.out, if_neg hk0, ← List.append_assoc, ← List.cons_append, ← List.cons_append, hL.out, List.length_append, List.length_append, Lib.byteCells_append]
          exact hown2
      · go_wp2_with (at_builtin; refine wpList_append_own _ rfl (.tmp 26) _ 44 rfl w.heap.size 5 i0 (.int .u8 0) 1 1 Tryz.underlying44 hi hz0 hz1 hz2 rfl (by decide) _ _ _ rfl (hown.alloc _) ⟨_, 0, none⟩ 1 1 [.int .u8 93] rfl rfl (cell_one_at (by simp)) (by intro u hu; simp at hu; subst hu; rfl) (by unfold maxLen; omega) (by omega) (by simp; omega) ?_; intro v1 w1 hown1 hgrow1 _; rw [snoc93] at hown1; have hcv := conv_row (dst := 9) hown1 Tryz.underlying44 Tryz.underlying5 Tryz.underlying9)
        go_ret
        refine ⟨?_, ?_⟩
        · have hkm : k = m := by omega
          rw [← hL.out, hkm, ← Hm.out]
          rfl
        · exact (hB.alloc hB.size _).grown hgrow1 (by simp; omega) (fun j hj => (hown.lt j hj).1)

end Go.Proofs.YtjbjjfndkpcciaaGreatDoor

/- vec's All: the range over a vector's sites, by its contract; Sum, which goes over it. Own work; no statement. -/
set_option linter.unusedSimpArgs false
set_option linter.unusedVariables false
namespace Go.Proofs.YtjbjjfndkpcciaaGreatDoor
open Go.RowKit Go.Shelf

attribute [local go_sem] Oper.semAt_some

/-- The sites below k that are not nothing, with their numbers. -/
def pairsTo (l : List Int) : Nat → List (Int × Int)
  | 0 => []
  | k + 1 => pairsTo l k ++ (if l.getD k 0 = 0 then [] else [((k : Int), l.getD k 0)])

theorem pairsTo_length (l : List Int) : ∀ k, (pairsTo l k).length ≤ k
  | 0 => by simp [pairsTo]
  | k + 1 => by
    have := pairsTo_length l k
    simp only [pairsTo, List.length_append]
    split <;> simp <;> omega

theorem pairsTo_skip (l : List Int) (k : Nat) (x : Int) (hx : l.getD k 0 = x) (h : x = 0) : pairsTo l (k + 1) = pairsTo l k := by simp only [pairsTo]; rw [if_pos (hx.trans h)]; simp
theorem pairsTo_take (l : List Int) (k : Nat) (x : Int) (hx : l.getD k 0 = x) (h : ¬ x = 0) : pairsTo l (k + 1) = pairsTo l k ++ [((k : Int), x)] := by simp only [pairsTo]; rw [if_neg (by rw [hx]; exact h), hx]

/-- Bs is the box of what All goes over: a row of its own, g, with the numbers l. -/
def IsAll (w : World) (Bs g : Nat) (l : List Int) : Prop :=
  g < w.heap.size ∧ Bs < w.heap.size ∧ w.cell? ⟨Bs, 0, none⟩ = some (.slice (some ⟨g, 0, none⟩) l.length l.length) ∧ ∀ t, t < l.length → w.cell? ⟨g, t, none⟩ = some (.int .i64 (l.getD t 0))

theorem IsAll.below {w w' : World} {Bs g : Nat} {l : List Int} (h : IsAll w Bs g l) (hb : Below w.heap.size w w') : IsAll w' Bs g l :=
  ⟨Nat.lt_of_lt_of_le h.1 hb.size, Nat.lt_of_lt_of_le h.2.1 hb.size, (hb.cell (p := ⟨Bs, 0, none⟩) h.2.1).trans h.2.2.1, fun t ht => (hb.cell (p := ⟨g, t, none⟩) h.1).trans (h.2.2.2 t ht)⟩

/-- What a round of a loop over All must keep: the row of the numbers. -/
def KeepsRow (g : Nat) (W W' : World) : Prop := W'.heap[g]? = W.heap[g]?
theorem keepsRow_t {g : Nat} {A B C : World} (h : KeepsRow g A B) (k : KeepsRow g B C) : KeepsRow g A C := Eq.trans k h
theorem keepsRow_b {g n : Nat} (hg : g < n) (W : World) (l : Nat) (o o' : Obj) (hl : n ≤ l) (_ : W.heap[l]? = some o) (_ : o.isCells = false) (_ : o.isWalk = false) : KeepsRow g W (W.putObj l o') := by
  unfold KeepsRow World.putObj
  simp only [Array.getElem?_setIfInBounds]
  rw [if_neg (by omega)]

theorem KeepsRow.cell {g t : Nat} {W W' : World} (h : KeepsRow g W W') : W'.cell? ⟨g, t, none⟩ = W.cell? ⟨g, t, none⟩ := World.cell?_of_block (w := W) (a := ⟨g, t, none⟩) h

/-- The numbers together, as an int adds them. -/
def sumW (ps : List (Int × Int)) : Int := ps.foldl (fun s p => wrap64 (s + p.2)) 0
theorem sumW_snoc (ps : List (Int × Int)) (x : Int × Int) : sumW (ps ++ [x]) = wrap64 (sumW ps + x.2) := by simp [sumW]

end Go.Proofs.YtjbjjfndkpcciaaGreatDoor

/- Memory laws for rows and boxes side by side; Sum in plain numbers; the laws' Pairs. Own work; no statement. -/
set_option linter.unusedSimpArgs false
set_option linter.unusedVariables false
namespace Go.Proofs.YtjbjjfndkpcciaaGreatDoor
open Go.RowKit Go.Shelf

attribute [local go_sem] Oper.semAt_some

theorem ownsRow_slice {W : World} {base : Nat} {e : TypeId} {size : Nat} {v : Value} {n : Nat} {xs : List Value} (h : W.ownsRow base e size v n xs) : ∃ a cap, v = .slice a n cap := by
  rcases h.2 with ⟨rfl, rfl⟩ | ⟨g, cap, cur, rfl, _⟩
  · exact ⟨_, _, rfl⟩
  · exact ⟨_, _, rfl⟩
theorem ownsRow_of_heap {W W' : World} {base : Nat} {e : TypeId} {size : Nat} {v : Value} {n : Nat} {xs : List Value} (h : W.ownsRow base e size v n xs) (hk : ∀ k, v.ownBlock = some k → W'.heap[k]? = W.heap[k]?) : W'.ownsRow base e size v n xs := by
  refine ⟨h.1, ?_⟩
  rcases h.2 with hn | ⟨g, cap, cur, rfl, hb, hgg, rest⟩
  · exact .inl hn
  · exact .inr ⟨g, cap, cur, rfl, hb, (hk g rfl).trans hgg, rest⟩
theorem ownsRow_low {W : World} {B B' : Nat} {e : TypeId} {size : Nat} {v : Value} {n : Nat} {xs : List Value} (h : W.ownsRow B e size v n xs) (hB : B' ≤ B) : W.ownsRow B' e size v n xs := by
  refine ⟨h.1, ?_⟩
  rcases h.2 with hn | ⟨g, cap, cur, rfl, hb, rest⟩
  · exact .inl hn
  · exact .inr ⟨g, cap, cur, rfl, Nat.le_trans hB hb, rest⟩
theorem boxed_of_heap {W W' : World} {B : Nat} {t : TypeId} {v : Value} (h : Boxed W B t v) (hk : W'.heap[B]? = W.heap[B]?) : Boxed W' B t v := hk.trans h
/-- Behind 'x = append(x, ..)' by way of x's box B: every other block is as it was. -/
theorem app_other {W w1 : World} {tmp : Obj} {row : Option Nat} {B : Nat} {v' : Value} (hgrow : (W.alloc tmp).grownBy w1 row) (k : Nat) (hk : k < W.heap.size) (hne : some k ≠ row) (hB : k ≠ B) : (w1.setCell ⟨B, 0, none⟩ v').heap[k]? = W.heap[k]? :=
  (Below.heap_setCell _ _ _ _ hB).trans ((hgrow.block k (by simp; omega) hne).trans (Below.heap_alloc _ _ _ hk))
theorem own_keeps {X Y : World} {row : Option Nat} (hg : X.grownBy Y row) (hrow : ∀ r, row = some r → ∃ o : Obj, X.heap[r]? = some o ∧ o.isCells = false) {k : Nat} {c : Array Value} {t : TypeId} {fr : Nat × Nat} (h : X.heap[k]? = some (.cells c t fr)) : Y.heap[k]? = X.heap[k]? := by
  refine hg.block k (Array.getElem?_eq_some_iff.1 h).1 (fun e => ?_)
  obtain ⟨o, ho, hc⟩ := hrow k e.symm
  rw [h] at ho
  cases ho
  cases hc
theorem boxed_own' {X Y : World} {row : Option Nat} (hg : X.grownBy Y row) (hrow : ∀ r, row = some r → ∃ o : Obj, X.heap[r]? = some o ∧ o.isCells = false) {B : Nat} {t : TypeId} {v : Value} (h : Boxed X B t v) : Boxed Y B t v := (own_keeps hg hrow h).trans h
theorem ownsRow_own' {X Y : World} {row : Option Nat} (hg : X.grownBy Y row) (hrow : ∀ r, row = some r → ∃ o : Obj, X.heap[r]? = some o ∧ o.isCells = false) {base : Nat} {e : TypeId} {size : Nat} {v : Value} {n : Nat} {xs : List Value} (h : X.ownsRow base e size v n xs) : Y.ownsRow base e size v n xs := by
  refine ownsRow_of_heap h (fun k hk => ?_)
  rcases h.2 with ⟨rfl, _⟩ | ⟨g, cap, cur, rfl, hb, hgg, rest⟩
  · cases hk
  · obtain rfl : g = k := by simpa [Value.ownBlock] using hk
    exact own_keeps hg hrow hgg

/-- Two boxes side by side, each with a slice that owns a row of its own, and the rows are two. -/
def Two (W : World) (n₀ : Nat) (t e : TypeId) (c c' : Nat) (v v' : Value) (n n' : Nat) (xs ys : List Value) : Prop :=
  Boxed W c t v ∧ Boxed W c' t v' ∧ W.ownsRow n₀ e 1 v n xs ∧ W.ownsRow n₀ e 1 v' n' ys ∧ ∀ k, v.ownBlock = some k → v'.ownBlock ≠ some k
theorem Two.symm {W : World} {n₀ : Nat} {t e : TypeId} {c c' : Nat} {v v' : Value} {n n' : Nat} {xs ys : List Value} (h : Two W n₀ t e c c' v v' n n' xs ys) : Two W n₀ t e c' c v' v n' n ys xs :=
  ⟨h.2.1, h.1, h.2.2.2.1, h.2.2.1, fun k h1 h2 => h.2.2.2.2 k h2 h1⟩
theorem Two.own {X Y : World} {row : Option Nat} (hg : X.grownBy Y row) (hrow : ∀ r, row = some r → ∃ o : Obj, X.heap[r]? = some o ∧ o.isCells = false) {n₀ : Nat} {t e : TypeId} {c c' : Nat} {v v' : Value} {n n' : Nat} {xs ys : List Value} (h : Two X n₀ t e c c' v v' n n' xs ys) : Two Y n₀ t e c c' v v' n n' xs ys :=
  ⟨boxed_own' hg hrow h.1, boxed_own' hg hrow h.2.1, ownsRow_own' hg hrow h.2.2.1, ownsRow_own' hg hrow h.2.2.2.1, h.2.2.2.2⟩
/-- 'x = append(x, y)', x the one of the two. -/
theorem Two.app {W w1 : World} {n₀ : Nat} {t e : TypeId} {c c' : Nat} {v v' u : Value} {n n' m : Nat} {xs ys zs : List Value} {tmp : Obj} (h : Two W n₀ t e c c' v v' n n' xs ys) (hte : t ≠ e) (hcc : c ≠ c') (hn₀ : n₀ ≤ W.heap.size) (hc : n₀ ≤ c)
    (hown : w1.ownsRow n₀ e 1 u m zs) (hgrow : (W.alloc tmp).grownBy w1 v.ownBlock) (hat : u.ownBlock = v.ownBlock ∨ u.ownBlock = some (W.alloc tmp).heap.size) :
    Boxed w1 c t v ∧ Two (w1.setCell ⟨c, 0, none⟩ u) n₀ t e c c' u v' m n' zs ys ∧ KeepsOthers W (w1.setCell ⟨c, 0, none⟩ u) ∧ Below n₀ W (w1.setCell ⟨c, 0, none⟩ u) ∧ W.heap.size ≤ w1.heap.size ∧
      Hid (∀ b t' z, Boxed W b t' z → t' ≠ e → b ≠ c → Boxed (w1.setCell ⟨c, 0, none⟩ u) b t' z) := by
  obtain ⟨ba, bb, ra, rb, hap⟩ := h
  obtain ⟨h1, h2, h3, h4, h5⟩ := ba.appended hte ra hn₀ hc hown hgrow
  refine ⟨h1, ⟨h2, boxed_of_heap bb (app_other hgrow c' bb.lt (bb.not_row hte ra) (fun e => hcc e.symm)), h3, ownsRow_of_heap rb (fun k hk => app_other hgrow k (rb.lt k hk).2 (fun e => hap k e.symm hk) (fun e => ba.not_row hte rb (by rw [hk, e]))), fun k h6 h7 => ?_⟩, h4, h5, ?_, fun b t' z hb ht hbc => boxed_of_heap hb (app_other hgrow b hb.lt (hb.not_row ht ra) hbc)⟩
  case refine_2 => have := hgrow.size; simp at this; omega
  rcases hat with e | e
  · exact hap k (e ▸ h6) h7
  · have := (rb.lt k h7).2
    rw [h6] at e
    simp at e
    omega
/-- The numbers that All tells, added: those of the vector. -/
theorem sum_pairsTo (l : List Int) (h : ∀ x ∈ l, 0 ≤ x ∧ x ≤ 1099511627776) (hl : l.length ≤ 1048576) : ∀ k, k ≤ l.length → sumW (pairsTo l k) = (l.take k).sum ∧ 0 ≤ (l.take k).sum ∧ (l.take k).sum ≤ 1099511627776 * k
  | 0, _ => by simp [pairsTo, sumW]
  | k + 1, hk => by
    obtain ⟨h1, h2, h3⟩ := sum_pairsTo l h hl k (by omega)
    have hx := h (l.getD k 0) (by rw [List.getD, List.getElem?_eq_getElem (by omega)]; exact List.getElem_mem _)
    have hs : (l.take (k + 1)).sum = (l.take k).sum + l.getD k 0 := by rw [take_snoc_getD l k (by omega)]; simp
    have hk3 : (1099511627776 : Int) * ((k + 1 : Nat) : Int) = 1099511627776 * (k : Int) + 1099511627776 := by omega
    rw [hs, hk3]
    refine ⟨?_, by omega, by omega⟩
    simp only [pairsTo]
    split
    · rename_i h0
      rw [List.append_nil, h1, h0]
      omega
    · rw [sumW_snoc, h1]
      unfold wrap64
      omega

end Go.Proofs.YtjbjjfndkpcciaaGreatDoor

/- A range over a function whose iterator keeps a variable of its own in memory: what it does between two rounds is told by a relation E, which the caller's invariant must abide. Own work; no statement. -/
set_option linter.unusedSimpArgs false
set_option linter.unusedVariables false
namespace Go.Proofs.YtjbjjfndkpcciaaGreatDoor
open Go.RowKit Go.Shelf

section
variable {α : Type} {P : Program} {n : Nat}

/-- The iterator's contract: as the library's, but that the caller's word abides the iterator's own steps E. -/
def SeqE (n : Nat) (P : Program) (g : Nat) (lb : Array Value) (encs : α → Array Value) (Kp E : World → World → Prop) (S Sp : List α → Prop) (N : Nat) (w : World) : Prop :=
  ∀ (l : Nat) (J Jx : List α → World → Prop) (W : World), Below w.heap.size w W → (∀ pre A B, J pre A → E A B → J pre B) → (∀ pre A B, Jx pre A → E A B → Jx pre B) →
    (∀ pre x A, J pre A → pre.length < N → YieldAt Fence.wide (n - 1) P l (encs x) A fun e B => (e = .returned (.bool true) ∧ J (pre ++ [x]) B ∧ Kp A B) ∨ (e = .returned (.bool false) ∧ Jx (pre ++ [x]) B)) →
    J [] W → CallsIn Fence.wide n P g (#[.func (.yield l) #[] #[]] ++ lb) W fun e B => (∃ v, e = .returned v) ∧ ((∃ xs, S xs ∧ J xs B) ∨ (∃ pre, Sp pre ∧ Jx pre B))

/-- The two blocks that a loop's own book-keeping lays: the record at D + 1, the rounds' deferred calls at D. -/
def Book (D : Nat) (r : Loop) (W : World) : Prop := W.heap[D + 1]? = some (.loop r) ∧ W.heap[D]? = some (.deferred (some []))
theorem Book.put {D : Nat} {r : Loop} {W : World} (h : Book D r W) (r' : Loop) : Book D r' (W.putObj (D + 1) (.loop r')) :=
  ⟨World.putObj_heap_same (Array.getElem?_eq_some_iff.1 h.1).1, (World.putObj_heap_other (by omega)).trans h.2⟩
theorem Book.from {D B : Nat} {r : Loop} {W W' : World} (h : Book D r W) (hB : B ≤ D) (hk : KeepsFrom B W W') : Book D r W' := ⟨hk.same _ _ (by omega) h.1 rfl, hk.same _ _ hB h.2 rfl⟩

/-- How a round ends: it goes on, or it is left by a jump. -/
def jumpOf : Exit → Option Code
  | .ret => some .ret
  | .exit id => some (.exit id)
  | .goto t => some (.goto t)
  | _ => none

theorem round_end {D : Nat} {r : Loop} {W W' : World} (hb : Book D r W) (jump : Option Code) (hk : KeepsFrom D W W') :
    (Instr.endRound (D + 1) jump).run P W' = .ok (.bool jump.isNone) (W'.putObj (D + 1) (.loop { r with state := if jump.isNone then .ready else .done, pending := jump })) ∧
    W'.heap[D + 1]? = some (.loop r) ∧ Book D { r with state := if jump.isNone then .ready else .done, pending := jump } (W'.putObj (D + 1) (.loop { r with state := if jump.isNone then .ready else .done, pending := jump })) :=
  have hb' := hb.from (Nat.le_refl _) hk
  ⟨run_endRound jump hb'.1, hb'.1, hb'.put _⟩

theorem range_law {g : Operand} {ps : Array Tmp} {assign body : Code} {Q : Exit → Act → World → Prop} {a : Act} {w : World} (h1 : 1 ≤ n) {gf : Nat} {lb : Array Value} (hg : a.eval g = .func (.func gf) #[] lb)
    (eg : ∀ args w, (callFunc gf args).run P w = .ok (.enter gf args) w) {encs : α → Array Value} {Kp E : World → World → Prop} {S Sp : List α → Prop} {N : Nat} (hseq : SeqE (n - 1) P gf lb encs Kp E S Sp N w)
    (hKt : ∀ {A B C : World}, Kp A B → Kp B C → Kp A C) (hKb : ∀ (W : World) (l : Nat) (o o' : Obj), w.heap.size ≤ l → W.heap[l]? = some o → o.isCells = false → o.isWalk = false → Kp W (W.putObj l o'))
    (hE : ∀ A B, E A B → KeepsFrom w.heap.size A B) (hps : ∀ x, (encs x).size = ps.size)
    (I : List α → World → Prop) (Ix : Code → List α → World → Prop) (hI : OwnFrom w.heap.size I) (hIx : ∀ c, OwnFrom w.heap.size (Ix c)) (hIE : ∀ pre A B, I pre A → E A B → I pre B) (hIxE : ∀ c pre A B, Ix c pre A → E A B → Ix c pre B)
    (h0 : I [] w) (a₁ : α → Act)
    (hassign : ∀ (l : Nat) (x : α) (W : World) (K : Act → World → Prop), K (a₁ x) W →
      assign.wpIn (Fence.wide.inRound l) (n - 1 - 1) P (Exit.then K (fun _ _ _ => False)) { tmps := (ps.zip (encs x)).foldl (fun t (p, v) => t.setIfInBounds p v) a.tmps, defers := [] } W)
    (hbody : ∀ (l : Nat) (pre : List α) (x : α) (W : World), I pre W → pre.length < N → body.wpIn (Fence.wide.inRound l) (n - 1 - 1) P (ownPostG w.heap.size Kp I Ix (pre ++ [x]) W) (a₁ x) W)
    (hdone : ∀ (D : Nat) (xs : List α) (W : World), w.heap.size ≤ D → S xs → I xs W → W.heap[D]? = some (.deferred (some [])) → Q .normal { a with defers := { target := .collected D, args := #[] } :: a.defers } W)
    (hstop : ∀ (D : Nat) (c : Code) (pre : List α) (W : World), w.heap.size ≤ D → Sp pre → Ix c pre W → W.heap[D]? = some (.deferred (some [])) → c.wpIn Fence.wide n P Q { a with defers := { target := .collected D, args := #[] } :: a.defers } W) :
    (Code.rangeFunc g ps assign body).wpIn Fence.wide n P Q a w := by
  refine wpIn_rangeFunc fun fn _ => ?_
  generalize hD : w.heap.size = D at *
  let r : Loop := { state := .ready, pending := none, fn, tmps := a.tmps, params := ps, assign, body, defers := D }
  let w1 : World := (w.alloc (.deferred (some []))).alloc (.loop r)
  have bk1 : Book D r w1 := by
    refine ⟨?_, ?_⟩
    · have := World.alloc_heap_new (w.alloc (.deferred (some []))) (.loop r)
      rwa [World.size_alloc, hD] at this
    · have := World.alloc_heap_new w (.deferred (some []))
      rw [hD] at this
      exact (Below.heap_alloc _ _ _ (by simp; omega)).trans this
  have i1 : I [] w1 := hI.alloc _ (hI.alloc _ h0)
  have b1 : Below w.heap.size w w1 := ((Below.refl _ w).alloc (Nat.le_refl _) _).alloc (by simp) _
  refine ⟨D + 1, [{ target := .collected D, args := #[] }], w1, { target := .fn (.func gf) lb, args := #[.func (.yield (D + 1)) #[] #[]] }, w1, gf, #[.func (.yield (D + 1)) #[] #[]] ++ lb, w1, ?_, ?_, fun _ _ => trivial, ?_, fun _ => h1, ?_⟩
  · rw [← hD]
    have := run_enterLoop_outer (P := P) (w := w) fn a.tmps ps assign body
    simp only [w1, r, ← hD]
    exact this
  · simp only [resolve, hg]
    simp [go_sem]
  · simp [invoke, go_sem, eg]
  · refine (hseq (D + 1) (fun pre W => I pre W ∧ Book D r W) (fun pre W => ∃ c, Ix c pre W ∧ Book D { r with state := .done, pending := some c } W) w1 b1
      (fun pre A B h e => ⟨hIE pre A B h.1 e, h.2.from (Nat.le_refl _) (hE A B e)⟩)
      (fun pre A B h e => let ⟨c, hc, hb⟩ := h; ⟨c, hIxE c pre A B hc e, hb.from (Nat.le_refl _) (hE A B e)⟩) ?_ ⟨i1, bk1⟩).mono ?_
    · rintro pre x W ⟨hi, hb⟩ hlen
      refine ⟨fn, _, assign, body, run_yield hb.1 (hps x), roundIn_of_wpIn trivial (hassign _ x W _ ⟨_, run_beginRound hb.1 rfl, ?_⟩)⟩
      have hb2 := hb.put { r with state := .busy }
      have k2 : Kp W (W.putObj (D + 1) (.loop { r with state := .busy })) := hKb _ _ _ _ (by omega) hb.1 rfl rfl
      refine wpIn_mono (hbody _ pre x _ (hI.putObj _ hi (by omega) hb.1 rfl) hlen) fun e a3 W3 hp => ?_
      have left : ∀ c, KeepsFrom D (W.putObj (D + 1) (.loop { r with state := .busy })) W3 → Ix c (pre ++ [x]) W3 → ∃ v W4, (Instr.endRound (D + 1) (some c)).run P W3 = .ok v W4 ∧ ((Ending.returned v = .returned (.bool true) ∧ (I (pre ++ [x]) W4 ∧ Book D r W4) ∧ Kp W W4) ∨ (Ending.returned v = .returned (.bool false) ∧ ∃ c, Ix c (pre ++ [x]) W4 ∧ Book D { r with state := .done, pending := some c } W4)) := fun c hk hi3 => by
        obtain ⟨hr, hl, hb4⟩ := round_end (P := P) hb2 (some c) hk
        exact ⟨_, _, hr, .inr ⟨rfl, c, (hIx c).putObj _ hi3 (by omega) hl rfl, hb4⟩⟩
      cases e with
      | normal =>
        obtain ⟨hk, hkp, hi3⟩ := hp
        obtain ⟨hr, hl, hb4⟩ := round_end (P := P) hb2 none hk
        exact ⟨_, _, hr, .inl ⟨rfl, ⟨hI.putObj _ hi3 (by omega) hl rfl, hb4⟩, hKt (hKt k2 hkp) (hKb _ _ _ _ (by omega) hl rfl rfl)⟩⟩
      | ret => exact left _ hp.1 hp.2
      | exit id => exact left _ hp.1 hp.2
      | goto t => exact left _ hp.1 hp.2
      | panic _ => exact hp.elim
      | outgrown => exact hp.elim
    · rintro e W2 ⟨⟨v, rfl⟩, (⟨xs, hS, hi, hb⟩ | ⟨pre, hSp, c, hi, hb⟩)⟩
      · exact ⟨none, _, run_endLoop hb.1 (by simp [r]), hdone _ xs _ (Nat.le_refl _) hS (hI.putObj _ hi (by omega) hb.1 rfl) (hb.put _).2⟩
      · exact ⟨some c, _, run_endLoop hb.1 (by simp), hstop _ c pre _ (Nat.le_refl _) hSp ((hIx c).putObj _ hi (by omega) hb.1 rfl) (hb.put _).2⟩
end

end Go.Proofs.YtjbjjfndkpcciaaGreatDoor

/- A range over a function that goes over a list which is known: the body is walked at the k-th element of it. Own work; no statement. -/
set_option linter.unusedSimpArgs false
set_option linter.unusedVariables false
namespace Go.Proofs.YtjbjjfndkpcciaaGreatDoor
open Go.RowKit Go.Shelf

section
variable {α : Type} {P : Program} {n : Nat}

/-- The iterator's contract: it hands over xs, one by one, as long as it is asked. -/
def SeqL (n : Nat) (P : Program) (g : Nat) (lb : Array Value) (encs : α → Array Value) (Kp : World → World → Prop) (xs : List α) (w : World) : Prop :=
  ∀ (l : Nat) (J Jx : Nat → World → Prop) (W : World), Below w.heap.size w W →
    (∀ k (h : k < xs.length) A, J k A → YieldAt Fence.wide (n - 1) P l (encs xs[k]) A fun e C => (e = .returned (.bool true) ∧ J (k + 1) C ∧ Kp A C) ∨ (e = .returned (.bool false) ∧ Jx k C)) →
    J 0 W → CallsIn Fence.wide n P g (#[.func (.yield l) #[] #[]] ++ lb) W fun e B => (∃ v, e = .returned v) ∧ (J xs.length B ∨ ∃ k, k < xs.length ∧ Jx k B)

/-- How the body of a round may be left. -/
def postL (B : Nat) (Kp : World → World → Prop) (I : Nat → World → Prop) (Ix : Code → Nat → World → Prop) (k : Nat) (W : World) : Exit → Act → World → Prop
  | .normal, _, W' => KeepsFrom B W W' ∧ Kp W W' ∧ I (k + 1) W'
  | .ret, _, W' => KeepsFrom B W W' ∧ Ix .ret k W'
  | .exit id, _, W' => KeepsFrom B W W' ∧ Ix (.exit id) k W'
  | .goto t, _, W' => KeepsFrom B W W' ∧ Ix (.goto t) k W'
  | .panic _, _, _ => False
  | .outgrown, _, _ => False

theorem range_lawL {g : Operand} {ps : Array Tmp} {assign body : Code} {Q : Exit → Act → World → Prop} {a : Act} {w : World} (h1 : 1 ≤ n) {gf : Nat} {lb : Array Value} (hg : a.eval g = .func (.func gf) #[] lb)
    (eg : ∀ args w, (callFunc gf args).run P w = .ok (.enter gf args) w) {encs : α → Array Value} {Kp : World → World → Prop} {xs : List α} (hseq : SeqL (n - 1) P gf lb encs Kp xs w)
    (hKt : ∀ {A B C : World}, Kp A B → Kp B C → Kp A C) (hKb : ∀ (W : World) (l : Nat) (o o' : Obj), w.heap.size ≤ l → W.heap[l]? = some o → o.isCells = false → o.isWalk = false → Kp W (W.putObj l o'))
    (hps : ∀ x, (encs x).size = ps.size)
    (I : Nat → World → Prop) (Ix : Code → Nat → World → Prop) (hI : OwnFrom w.heap.size I) (hIx : ∀ c, OwnFrom w.heap.size (Ix c))
    (h0 : I 0 w) (a₁ : α → Act)
    (hassign : ∀ (l : Nat) (x : α) (W : World) (K : Act → World → Prop), K (a₁ x) W →
      assign.wpIn (Fence.wide.inRound l) (n - 1 - 1) P (Exit.then K (fun _ _ _ => False)) { tmps := (ps.zip (encs x)).foldl (fun t (p, v) => t.setIfInBounds p v) a.tmps, defers := [] } W)
    (hbody : ∀ (l k : Nat) (h : k < xs.length) (W : World), I k W → body.wpIn (Fence.wide.inRound l) (n - 1 - 1) P (postL w.heap.size Kp I Ix k W) (a₁ xs[k]) W)
    (hdone : ∀ (D : Nat) (W : World), w.heap.size ≤ D → I xs.length W → W.heap[D]? = some (.deferred (some [])) → Q .normal { a with defers := { target := .collected D, args := #[] } :: a.defers } W)
    (hstop : ∀ (D : Nat) (c : Code) (k : Nat) (W : World), w.heap.size ≤ D → k < xs.length → Ix c k W → W.heap[D]? = some (.deferred (some [])) → c.wpIn Fence.wide n P Q { a with defers := { target := .collected D, args := #[] } :: a.defers } W) :
    (Code.rangeFunc g ps assign body).wpIn Fence.wide n P Q a w := by
  refine wpIn_rangeFunc fun fn _ => ?_
  generalize hD : w.heap.size = D at *
  let r : Loop := { state := .ready, pending := none, fn, tmps := a.tmps, params := ps, assign, body, defers := D }
  let w1 : World := (w.alloc (.deferred (some []))).alloc (.loop r)
  have bk1 : Book D r w1 := by
    refine ⟨?_, ?_⟩
    · have := World.alloc_heap_new (w.alloc (.deferred (some []))) (.loop r)
      rwa [World.size_alloc, hD] at this
    · have := World.alloc_heap_new w (.deferred (some []))
      rw [hD] at this
      exact (Below.heap_alloc _ _ _ (by simp; omega)).trans this
  have i1 : I 0 w1 := hI.alloc _ (hI.alloc _ h0)
  have b1 : Below w.heap.size w w1 := ((Below.refl _ w).alloc (Nat.le_refl _) _).alloc (by simp) _
  refine ⟨D + 1, [{ target := .collected D, args := #[] }], w1, { target := .fn (.func gf) lb, args := #[.func (.yield (D + 1)) #[] #[]] }, w1, gf, #[.func (.yield (D + 1)) #[] #[]] ++ lb, w1, ?_, ?_, fun _ _ => trivial, ?_, fun _ => h1, ?_⟩
  · rw [← hD]
    have := run_enterLoop_outer (P := P) (w := w) fn a.tmps ps assign body
    simp only [w1, r, ← hD]
    exact this
  · simp only [resolve, hg]
    simp [go_sem]
  · simp [invoke, go_sem, eg]
  · refine (hseq (D + 1) (fun k W => I k W ∧ Book D r W) (fun k W => ∃ c, Ix c k W ∧ Book D { r with state := .done, pending := some c } W) w1 b1 ?_ ⟨i1, bk1⟩).mono ?_
    · rintro k hk W ⟨hi, hb⟩
      refine ⟨fn, _, assign, body, run_yield hb.1 (hps xs[k]), roundIn_of_wpIn trivial (hassign _ xs[k] W _ ⟨_, run_beginRound hb.1 rfl, ?_⟩)⟩
      have hb2 := hb.put { r with state := .busy }
      have k2 : Kp W (W.putObj (D + 1) (.loop { r with state := .busy })) := hKb _ _ _ _ (by omega) hb.1 rfl rfl
      refine wpIn_mono (hbody _ k hk _ (hI.putObj _ hi (by omega) hb.1 rfl)) fun e a3 W3 hp => ?_
      have left : ∀ c, KeepsFrom D (W.putObj (D + 1) (.loop { r with state := .busy })) W3 → Ix c k W3 → ∃ v W4, (Instr.endRound (D + 1) (some c)).run P W3 = .ok v W4 ∧ ((Ending.returned v = .returned (.bool true) ∧ (I (k + 1) W4 ∧ Book D r W4) ∧ Kp W W4) ∨ (Ending.returned v = .returned (.bool false) ∧ ∃ c, Ix c k W4 ∧ Book D { r with state := .done, pending := some c } W4)) := fun c hk' hi3 => by
        obtain ⟨hr, hl, hb4⟩ := round_end (P := P) hb2 (some c) hk'
        exact ⟨_, _, hr, .inr ⟨rfl, c, (hIx c).putObj _ hi3 (by omega) hl rfl, hb4⟩⟩
      cases e with
      | normal =>
        obtain ⟨hk', hkp, hi3⟩ := hp
        obtain ⟨hr, hl, hb4⟩ := round_end (P := P) hb2 none hk'
        exact ⟨_, _, hr, .inl ⟨rfl, ⟨hI.putObj _ hi3 (by omega) hl rfl, hb4⟩, hKt (hKt k2 hkp) (hKb _ _ _ _ (by omega) hl rfl rfl)⟩⟩
      | ret => exact left _ hp.1 hp.2
      | exit id => exact left _ hp.1 hp.2
      | goto t => exact left _ hp.1 hp.2
      | panic _ => exact hp.elim
      | outgrown => exact hp.elim
    · rintro e W2 ⟨⟨v, rfl⟩, (⟨hi, hb⟩ | ⟨k, hk, c, hi, hb⟩)⟩
      · exact ⟨none, _, run_endLoop hb.1 (by simp [r]), hdone _ _ (Nat.le_refl _) (hI.putObj _ hi (by omega) hb.1 rfl) (hb.put _).2⟩
      · exact ⟨some c, _, run_endLoop hb.1 (by simp), hstop _ c k _ (Nat.le_refl _) hk ((hIx c).putObj _ hi (by omega) hb.1 rfl) (hb.put _).2⟩
end

end Go.Proofs.YtjbjjfndkpcciaaGreatDoor

/- Memory that changes at some blocks alone; disks in memory; disk's small functions. Own work; no statement. -/
set_option linter.unusedSimpArgs false
set_option linter.unusedVariables false
namespace Go.Proofs.YtjbjjfndkpcciaaGreatDoor
open Go.RowKit Go.Shelf

/-- From w to w' nothing has changed of what there was, but for the blocks of S. -/
structure Touch (S : Nat → Prop) (w w' : World) : Prop where
  os : w'.os = w.os
  tape : w'.tape = w.tape
  output : w'.output = w.output
  size : w.heap.size ≤ w'.heap.size
  block : ∀ k, k < w.heap.size → ¬ S k → w'.heap[k]? = w.heap[k]?

theorem Touch.refl (S : Nat → Prop) (w : World) : Touch S w w := ⟨rfl, rfl, rfl, Nat.le_refl _, fun _ _ _ => rfl⟩
theorem Touch.next {S S1 : Nat → Prop} {a b c : World} (h : Touch S a b) (k : Touch S1 b c) (hs : ∀ i, i < a.heap.size → S1 i → S i) : Touch S a c :=
  ⟨k.os.trans h.os, k.tape.trans h.tape, k.output.trans h.output, Nat.le_trans h.size k.size, fun i hi hS => (k.block i (Nat.lt_of_lt_of_le hi h.size) (fun e => hS (hs i hi e))).trans (h.block i hi hS)⟩
theorem Touch.trans {S : Nat → Prop} {a b c : World} (h : Touch S a b) (k : Touch S b c) : Touch S a c := h.next k fun _ _ e => e
theorem Touch.mono {S S' : Nat → Prop} {w w' : World} (h : Touch S w w') (hs : ∀ k, k < w.heap.size → S k → S' k) : Touch S' w w' :=
  ⟨h.os, h.tape, h.output, h.size, fun k hk hS => h.block k hk fun e => hS (hs k hk e)⟩
theorem touch_of_below {S : Nat → Prop} {B : Nat} {w w' : World} (h : Below B w w') (hS : ∀ k, k < w.heap.size → B ≤ k → S k) : Touch S w w' :=
  ⟨h.os, h.tape, h.output, h.size, fun k hk hn => h.block k (Nat.lt_of_not_le fun hb => hn (hS k hk hb))⟩
theorem touch_new {S : Nat → Prop} {w w' : World} (h : Below w.heap.size w w') : Touch S w w' := touch_of_below h fun k h1 h2 => absurd h1 (by omega)
theorem Touch.below {S : Nat → Prop} {w w' : World} {B : Nat} (h : Touch S w w') (hb : B ≤ w.heap.size) (hB : ∀ k, k < w.heap.size → S k → B ≤ k) : Below B w w' :=
  ⟨h.os, h.tape, h.output, h.size, fun k hk => h.block k (by omega) fun e => by have := hB k (by omega) e; omega⟩
theorem touch_set {S : Nat → Prop} (w : World) (a : Addr) (v : Value) (h : S a.block) : Touch S w (w.setCell a v) :=
  ⟨rfl, rfl, rfl, by simp [World.setCell], fun k _ hn => Below.heap_setCell _ _ _ _ (fun e => hn (e ▸ h))⟩
theorem Touch.set {S : Nat → Prop} {w w' : World} (t : Touch S w w') (a : Addr) (v : Value) (h : S a.block) : Touch S w (w'.setCell a v) := t.trans (touch_set w' a v h)
theorem Touch.alloc {S : Nat → Prop} {w w' : World} (t : Touch S w w') (o : Obj) : Touch S w (w'.alloc o) := t.trans (touch_new ((Below.refl _ w').alloc (Nat.le_refl _) o))
theorem Touch.drew {S : Nat → Prop} {w w' : World} (t : Touch S w w') : Touch S w w'.drew := ⟨t.os, t.tape, t.output, t.size, t.block⟩
theorem Touch.new {S : Nat → Prop} {w w' w2 : World} (t : Touch S w w') (h : Below w'.heap.size w' w2) : Touch S w w2 := t.trans (touch_new h)
/-- What is new since w may be changed at will. -/
theorem Touch.upper {S S1 : Nat → Prop} {a b c : World} (h : Touch S a b) (k : Touch S1 b c) (hs : ∀ i, S1 i → a.heap.size ≤ i) : Touch S a c := h.next k fun i hi e => absurd (hs i e) (by omega)

theorem ownFrom_touch {β : Type} {S : Nat → Prop} {w : World} {B : Nat} (hB : w.heap.size ≤ B) : OwnFrom B (fun (_ : β) W => Touch S w W) := fun _ W W' row h hg hr =>
  h.next (S1 := fun k => row = some k) ⟨hg.os, hg.tape, hg.output, hg.size, fun k hk hn => hg.block k hk fun e => hn e.symm⟩ fun i hi e => absurd ((hr i e).1) (by omega)

theorem Touch.of_touch {S : Nat → Prop} {a b c : World} (k : Touch S b c) (h : Below a.heap.size a b) : Touch S a c := (touch_new h).trans k
theorem drewsB (w : World) (n : Nat) : Below w.heap.size w (w.drewN n) := ⟨rfl, rfl, rfl, Nat.le_refl _, fun _ _ => rfl⟩
theorem Touch.drewN {S : Nat → Prop} {w w' : World} (t : Touch S w w') (n : Nat) : Touch S w (w'.drewN n) := t.new (drewsB w' n)

theorem cellsAt {W : World} {b : Nat} {c : Array Value} {t : TypeId} {f : Nat × Nat} (h : W.heap[b]? = some (.cells c t f)) (j : Nat) : W.cell? ⟨b, j, none⟩ = c[j]? := by
  simp [World.cell?, h]
theorem frozenAt {W : World} {b : Nat} {c : Array Value} {t : TypeId} (h : W.heap[b]? = some (.cells c t (0, 0))) (j : Nat) : W.frozen? ⟨b, j, none⟩ = false := by
  simp [World.frozen?, h]
theorem setAt {W : World} {b j : Nat} {c : Array Value} {t : TypeId} {f : Nat × Nat} (h : W.heap[b]? = some (.cells c t f)) (v : Value) : (W.setCell ⟨b, j, none⟩ v).heap[b]? = some (.cells (c.setIfInBounds j v) t f) := by
  simp [World.setCell, Array.getElem?_modify, h]
theorem ltAt {W : World} {b : Nat} {o : Obj} (h : W.heap[b]? = some o) : b < W.heap.size := (Array.getElem?_eq_some_iff.1 h).1

/-- A row is no block of another type. -/
theorem row_not {W : World} {B e : Nat} {v : Value} {n s b : Nat} {xs : List Value} {c : Array Value} {t : TypeId} {f : Nat × Nat} (h : W.ownsRow B e s v n xs) (hb : W.heap[b]? = some (.cells c t f)) (ht : t ≠ e) : some b ≠ v.ownBlock := fun he => by
  rcases h.2 with ⟨rfl, _⟩ | ⟨g', cap', cur, rfl, _, hg', _⟩
  · cases he
  · obtain rfl : b = g' := by simpa [Value.ownBlock] using he
    rw [hb] at hg'
    simp only [Option.some.injEq, Obj.cells.injEq] at hg'
    exact ht hg'.2.1

theorem frozen_alloc {w : World} {a : Addr} {v : Value} {o : Obj} (h : w.cell? a = some v) : (w.alloc o).frozen? a = w.frozen? a :=
  ((Below.refl _ w).alloc (Nat.le_refl _) o).frozen (p := a) (World.block_lt_of_cell? w _ h)

/-- A call of a Go function by its contract, as a step of a region that draws. -/
theorem stepCall {P : Program} {ops : Array Oper} {o : Oper} {a : Act} {w : World} {K : Act → World → Prop} {Q : Exit → Act → World → Prop} {E : Prop} (hg : o.guard = none) (f : FuncId) (args : Array Value) {R : Ending → World → Prop} (hrun : (execOp a.eval o).run P w = .ok (.enter f args) w) (hc : Calls P f args w R)
    (hR : ∀ e w', R e w' → ∃ v, e = .returned v ∧ K (a.put o.dst v) w') : if Region.wanted o (yielded ops a.tmps) = true then Oper.wp P o a w K Q else E := by
  rw [if_pos (by simp [Region.wanted, hg])]
  unfold Oper.wp
  rw [hrun]
  simp only [Oper.upon]
  refine hc.mono fun e w' h => ?_
  obtain ⟨v, rfl, hk⟩ := hR e w' h
  exact hk

/-- A region whose head only reads, and whose tail comes in one order. -/
theorem stillTail {P : Program} {id : Nat} {Q : Exit → Act → World → Prop} {a : Act} {w : World} {l : List Oper} (n : Nat) (hm : P.follows .mixedOrders = true) (hB : Region.lexTailB .any l.toArray n = true)
    (h : wpStill P l.toArray w.drew (fun a' => wpList P l.toArray Q (l.drop n) a' w.drew) (l.take n) a) : (Code.region id l.toArray true).wp P Q a w := wp_region_still_tail n hm hB h

/-- What a disk has. -/
structure DiskD where
  room : Int
  lines : List ByteArray
  lasts : Nat

/-- The bytes of lines, with their ends. -/
def bytesOf (l : List ByteArray) : Nat := (l.map (fun s => s.size + 1)).sum

theorem bytesOf_append (a b : List ByteArray) : bytesOf (a ++ b) = bytesOf a + bytesOf b := by simp [bytesOf]
theorem bytesOf_length (l : List ByteArray) : l.length ≤ bytesOf l := by
  induction l with
  | nil => simp [bytesOf]
  | cons x r ih => simp [bytesOf] at *; omega
theorem bytesOf_take (l : List ByteArray) (k : Nat) : bytesOf (l.take k) + bytesOf (l.drop k) = bytesOf l := by
  rw [← bytesOf_append, List.take_append_drop]
theorem bytesOf_mem {l : List ByteArray} {s : ByteArray} (h : s ∈ l) : s.size + 1 ≤ bytesOf l := by
  induction l with
  | nil => cases h
  | cons x r ih =>
    simp [bytesOf] at *
    rcases h with rfl | h
    · omega
    · have := ih h; omega

structure DiskD.ok (D : DiskD) : Prop where
  low : 1 ≤ D.room
  high : D.room ≤ 1048576
  fits : (bytesOf D.lines : Int) ≤ D.room
  lasts : D.lasts ≤ D.lines.length

/-- At block p there lies a disk, its lines in a row of their own. -/
structure IsDisk (w : World) (B p : Nat) (g : Option Nat) (D : DiskD) : Prop where
  ok : D.ok
  low : B ≤ p
  val : ∃ v, v.ownBlock = g ∧ w.heap[p]? = some (.cells #[.int .i64 D.room, .int .i64 (bytesOf D.lines), .int .i64 D.lasts, v] 129 (0, 0)) ∧ w.ownsRow B 9 1 v D.lines.length (D.lines.map Value.string)

/-- The blocks of a disk. -/
def onDisk (p : Nat) (g : Option Nat) (k : Nat) : Prop := k = p ∨ g = some k

theorem IsDisk.lt {w : World} {B p : Nat} {g : Option Nat} {D : DiskD} (h : IsDisk w B p g D) : p < w.heap.size := by
  obtain ⟨v, _, hp, _⟩ := h.val
  exact ltAt hp
theorem IsDisk.row {w : World} {B p : Nat} {g : Option Nat} {D : DiskD} (h : IsDisk w B p g D) : ∀ k, g = some k → B ≤ k ∧ k < w.heap.size := by
  obtain ⟨v, rfl, hp, hr⟩ := h.val
  exact hr.lt
theorem IsDisk.on {w : World} {B p : Nat} {g : Option Nat} {D : DiskD} (h : IsDisk w B p g D) {k : Nat} (hk : onDisk p g k) : B ≤ k ∧ k < w.heap.size := by
  rcases hk with rfl | e
  · exact ⟨h.low, h.lt⟩
  · exact h.row k e
/-- Where its blocks are as they were a disk is as it was. -/
theorem IsDisk.keep {w w' : World} {B p : Nat} {g : Option Nat} {D : DiskD} (h : IsDisk w B p g D) (hk : ∀ k, onDisk p g k → w'.heap[k]? = w.heap[k]?) : IsDisk w' B p g D := by
  obtain ⟨v, hv, hp, hr⟩ := h.val
  exact ⟨h.ok, h.low, v, hv, (hk p (.inl rfl)).trans hp, ownsRow_of_heap hr fun k e => hk k (.inr (hv ▸ e))⟩
theorem IsDisk.touch {w w' : World} {S : Nat → Prop} {B p : Nat} {g : Option Nat} {D : DiskD} (h : IsDisk w B p g D) (t : Touch S w w') (hS : ∀ k, onDisk p g k → ¬ S k) : IsDisk w' B p g D :=
  h.keep fun k hk => t.block k (h.on hk).2 (hS k hk)
theorem IsDisk.new {w w' : World} {B p : Nat} {g : Option Nat} {D : DiskD} (h : IsDisk w B p g D) (t : Below w.heap.size w w') : IsDisk w' B p g D :=
  h.keep fun k hk => t.block k (h.on hk).2
theorem IsDisk.len {w : World} {B p : Nat} {g : Option Nat} {D : DiskD} (h : IsDisk w B p g D) : D.lines.length ≤ 1048576 ∧ bytesOf D.lines ≤ 1048576 := by
  have := bytesOf_length D.lines
  have := h.ok.fits
  have := h.ok.high
  omega
/-- A disk and what is own of a world: cells alone. -/
theorem IsDisk.own {X Y : World} {row : Option Nat} {B p : Nat} {g : Option Nat} {D : DiskD} (h : IsDisk X B p g D) (hg : X.grownBy Y row) (hrow : ∀ r, row = some r → ∃ o : Obj, X.heap[r]? = some o ∧ o.isCells = false) : IsDisk Y B p g D := by
  obtain ⟨v, hv, hp, hr⟩ := h.val
  exact ⟨h.ok, h.low, v, hv, (own_keeps hg hrow hp).trans hp, ownsRow_own' hg hrow hr⟩

/-- A disk's cells, for a walk. -/
theorem IsDisk.open {w : World} {B p : Nat} {g : Option Nat} {D : DiskD} (h : IsDisk w B p g D) : ∃ a cap, w.cell? ⟨p, 0, none⟩ = some (.int .i64 D.room) ∧ w.cell? ⟨p, 1, none⟩ = some (.int .i64 (bytesOf D.lines)) ∧ w.cell? ⟨p, 2, none⟩ = some (.int .i64 D.lasts) ∧ w.cell? ⟨p, 3, none⟩ = some (.slice a D.lines.length cap) ∧
    (∀ j, w.frozen? ⟨p, j, none⟩ = false) ∧ (Value.slice a D.lines.length cap).ownBlock = g ∧ w.ownsRow B 9 1 (.slice a D.lines.length cap) D.lines.length (D.lines.map Value.string) ∧
    w.heap[p]? = some (.cells #[.int .i64 D.room, .int .i64 (bytesOf D.lines), .int .i64 D.lasts, .slice a D.lines.length cap] 129 (0, 0)) := by
  obtain ⟨v, hv, hp, hr⟩ := h.val
  obtain ⟨a, cap, rfl⟩ := ownsRow_slice hr
  exact ⟨a, cap, by simpa using cellsAt hp 0, by simpa using cellsAt hp 1, by simpa using cellsAt hp 2, by simpa using cellsAt hp 3, fun j => frozenAt hp j, hv, hr, hp⟩

/-- A row of texts, cell by cell. -/
theorem strs_cell {w : World} {B : Nat} {e : TypeId} {a : Option Addr} {cap : Nat} {l : List ByteArray} (h : w.ownsRow B e 1 (.slice a l.length cap) l.length (l.map Value.string)) (t : Nat) (ht : t < l.length) :
    ∃ b, a = some ⟨b, 0, none⟩ ∧ w.cell? ⟨b, t, none⟩ = some (.string l[t]) := by
  rcases h.2 with ⟨e', h0⟩ | ⟨g, cap', cur, e', _⟩
  · omega
  · simp only [Value.slice.injEq] at e'
    obtain ⟨rfl, -, rfl⟩ := e'
    refine ⟨g, rfl, ?_⟩
    rw [h.cellAt t (by omega)]
    simp [ht]

set_option maxHeartbeats 400000 in
theorem diskNew_calls (room : Int) (w : World) (h : 1 ≤ room) (h' : room ≤ 1048576) :
    Calls Tryz.prog 39 #[.int .i64 room] w fun e w' => e = .returned (.tuple #[.pointer (some ⟨w.heap.size, 0, none⟩), .int .i64 0]) ∧ IsDisk w' w.heap.size w.heap.size none ⟨room, [], 0⟩ ∧ Below w.heap.size w w' := by
  go_enter Tryz.func39, Tryz.ntmps39
  go_wp2
  go_ret2
  refine ⟨rfl, ⟨⟨h, h', by simp [bytesOf]; omega, by simp⟩, Nat.le_refl _, _, rfl, World.alloc_heap_new w _, World.ownsRow_nil _ _ _ _⟩, (Below.refl _ w).alloc (Nat.le_refl _) _⟩
set_option maxHeartbeats 400000 in
theorem diskNew_bad (room : Int) (w : World) (h : ¬ (1 ≤ room ∧ room ≤ 1048576)) :
    Calls Tryz.prog 39 #[.int .i64 room] w fun e w' => e = .returned (.tuple #[.pointer none, .int .i64 1]) ∧ w' = w := by
  by_cases h0 : room < 1
  · go_enter Tryz.func39, Tryz.ntmps39
    go_wp2
    go_ret2
    exact ⟨rfl, rfl⟩
  · have h1 : room > 1048576 := by omega
    go_enter Tryz.func39, Tryz.ntmps39
    go_wp2
    go_ret2
    exact ⟨rfl, rfl⟩
set_option maxHeartbeats 400000 in
theorem diskSize_calls (s : ByteArray) (w : World) (h : s.size ≤ 1099511627776) :
    Calls Tryz.prog 97 #[.string s] w fun e w' => e = .returned (.int .i64 (s.size + 1)) ∧ w' = w := by
  go_enter Tryz.func97, Tryz.ntmps97
  go_wp2
  go_ret
  exact ⟨rfl, rfl⟩
set_option maxHeartbeats 400000 in
theorem diskLen_calls (B p : Nat) (g : Option Nat) (D : DiskD) (w : World) (hd : IsDisk w B p g D) :
    Calls Tryz.prog 128 #[.pointer (some ⟨p, 0, none⟩)] w fun e w' => e = .returned (.int .i64 D.lines.length) ∧ w' = w := by
  obtain ⟨a, cap, c0, c1, c2, c3, hf, -, -, -⟩ := hd.open
  have hl := hd.len
  clear hd
  go_enter Tryz.func128, Tryz.ntmps128
  go_wp2
  go_ret
  exact ⟨rfl, rfl⟩
set_option maxHeartbeats 1000000 in
theorem diskWaits_calls (B p : Nat) (g : Option Nat) (D : DiskD) (w : World) (hd : IsDisk w B p g D) :
    Calls Tryz.prog 67 #[.pointer (some ⟨p, 0, none⟩)] w fun e w' => e = .returned (.int .i64 ((D.lines.length : Int) - (D.lasts : Int))) ∧ ∃ n, w' = w.drewN n := by
  obtain ⟨a, cap, c0, c1, c2, c3, hf, -, -, -⟩ := hd.open
  have hl := hd.len
  have h2 := hd.ok.lasts
  clear hd
  go_enter Tryz.func67, Tryz.ntmps67
  go_wp2
  go_quiet (fail)
  go_wp2
  go_ret
  exact ⟨rfl, _, rfl⟩
set_option maxHeartbeats 1000000 in
theorem diskSync_calls (B p : Nat) (g : Option Nat) (D : DiskD) (w : World) (hd : IsDisk w B p g D) :
    Calls Tryz.prog 68 #[.pointer (some ⟨p, 0, none⟩)] w fun e w' => e = .returned (.tuple #[]) ∧ IsDisk w' B p g ⟨D.room, D.lines, D.lines.length⟩ ∧ Touch (onDisk p g) w w' := by
  obtain ⟨a, cap, c0, c1, c2, c3, hf, hg, hr, hp⟩ := hd.open
  have hl := hd.len
  have f2 := hf 2
  have Hd := hide hd
  have Hr := hide hr
  have Hp := hide hp
  clear hd hf hr hp
  go_enter Tryz.func68, Tryz.ntmps68
  go_wp2
  go_end0
  have hd := Hd.out
  have hr := Hr.out
  refine ⟨rfl, ⟨⟨hd.ok.low, hd.ok.high, hd.ok.fits, Nat.le_refl _⟩, hd.low, .slice a D.lines.length cap, hg, by simpa using setAt Hp.out (j := 2) _, ownsRow_of_heap hr fun k e => Below.heap_setCell _ _ _ _ fun e' => ?_⟩, touch_set _ _ _ (.inl rfl)⟩
  dsimp only at e'
  subst e'
  rcases hr.2 with ⟨h0, _⟩ | ⟨g', cap', cur, h0, _, hg', _⟩
  · rw [h0] at e; cases e
  · rw [h0] at e
    obtain rfl : g' = k := by simpa [Value.ownBlock] using e
    rw [Hp.out] at hg'
    simp at hg'
end Go.Proofs.YtjbjjfndkpcciaaGreatDoor

/- disk's Write, Twin, Lines. Own work; no statement. -/
set_option linter.unusedSimpArgs false
set_option linter.unusedVariables false
namespace Go.Proofs.YtjbjjfndkpcciaaGreatDoor
open Go.RowKit Go.Shelf

theorem Tryz.info9 : (Tryz.prog.info? 9).map (fun i => (i.zero, i.size, i.bytes)) = some (some (.string ⟨#[]⟩), 1, 16) := by kernel_rfl

set_option maxHeartbeats 400000 in
theorem strClone_calls (s : ByteArray) (w : World) (hs : s.size ≤ 1099511627776) :
    Calls Tryz.prog 174 #[.string s] w fun e w' => e = .returned (.string s) ∧ Below w.heap.size w w' := by
  have Ci := hide (Tryz.stringslite_Clone s w (by omega))
  go_enter Tryz.func174, Tryz.ntmps174
  go_wp2_with (go_at_call 201; refine Ci.out.mono ?_; rintro e w' ⟨rfl, hB⟩)
  go_ret
  exact ⟨rfl, hB⟩

theorem cloneStrs_calls (B : Nat) (v : Value) (l : List ByteArray) (w : World) (hr : w.ownsRow B 9 1 v l.length (l.map Value.string)) (hl : l.length ≤ 1099511627776) :
    Calls Tryz.prog 93 #[v] w fun e w' => ∃ v', e = .returned v' ∧ w'.ownsRow w.heap.size 9 1 v' l.length (l.map Value.string) ∧ Below w.heap.size w w' := by
  rcases hr.2 with ⟨rfl, h0⟩ | ⟨g, cap, cur, rfl, hb, hg, hnc, hcm, hcs, ht⟩
  · have e : l = [] := List.eq_nil_of_length_eq_zero h0
    subst e
    refine (Tryz.slices_Clone_string_nil 0 0 w).mono ?_
    rintro e w' ⟨rfl, rfl⟩
    exact ⟨_, rfl, World.ownsRow_nil _ _ _ _, Below.refl _ _⟩
  · refine (Tryz.slices_Clone_string g 0 l.length cap l w (Nat.le_refl _) (by omega) ?_).mono ?_
    · intro j hj
      rw [Nat.zero_add, hr.cellAt j (by omega)]
      simp [hj]
    · rintro e w' ⟨v', rfl, hown, -, hB⟩
      rw [List.take_of_length_le (Nat.le_refl _)] at hown
      exact ⟨v', rfl, hown, hB⟩

/-- Has a text a line's end in it? -/
def hasEnd (s : ByteArray) : Bool := decide (10 ∈ s.data.toList)

theorem indexByte_ends (s : ByteArray) : (0 ≤ Lib.indexByte s.data.toList 10) ↔ hasEnd s = true := by
  unfold hasEnd
  rw [decide_eq_true_eq]
  generalize s.data.toList = l
  induction l with
  | nil => simp [Lib.indexByte]
  | cons x r ih =>
    simp only [Lib.indexByte, List.mem_cons]
    by_cases h : x = 10
    · simp [h]
    · have h2 : ¬ (10 : UInt8) = x := fun e => h e.symm
      have h3 : (x == 10) = false := by simp [h]
      simp only [h3, h2, false_or, Bool.false_eq_true, if_false, beq_iff_eq]
      rw [← ih]
      have := Lib.indexByte_ge r 10
      split <;> omega

/-- What Write answers; what it makes of a disk. -/
def writeE (D : DiskD) (s : ByteArray) : Int := if hasEnd s = true then 2 else if D.room - (bytesOf D.lines : Int) < (s.size : Int) + 1 then 6 else 0
def writeD (D : DiskD) (s : ByteArray) : DiskD := if writeE D s = 0 then ⟨D.room, D.lines ++ [s], D.lasts⟩ else D


/-- The line is put behind the others: memory. -/
theorem write_mem {w w1 w2 : World} {B p : Nat} {g : Option Nat} {D : DiskD} {s : ByteArray} {a : Option Addr} {cap g1 cap1 : Nat} {o : Obj} (hd : IsDisk w B p g D) (hB1 : Below w.heap.size w w1)
    (hv : (Value.slice a D.lines.length cap).ownBlock = g) (hp : w.heap[p]? = some (.cells #[.int .i64 D.room, .int .i64 (bytesOf D.lines), .int .i64 D.lasts, .slice a D.lines.length cap] 129 (0, 0)))
    (hr : w.ownsRow B 9 1 (.slice a D.lines.length cap) D.lines.length (D.lines.map Value.string))
    (hown : w2.ownsRow B 9 1 (.slice (some ⟨g1, 0, none⟩) (D.lines.length + 1) cap1) (D.lines.length + 1) (D.lines.map Value.string ++ [.string s])) (hgrow : (w1.alloc o).grownBy w2 (Value.slice a D.lines.length cap).ownBlock)
    (hat : (Value.slice a D.lines.length cap).ownBlock = some g1 ∨ g1 = w1.heap.size + 1) (hroom : (bytesOf D.lines : Int) + ((s.size : Int) + 1) ≤ D.room) :
    w2.heap[p]? = some (.cells #[.int .i64 D.room, .int .i64 (bytesOf D.lines), .int .i64 D.lasts, .slice a D.lines.length cap] 129 (0, 0)) ∧
    IsDisk ((w2.setCell ⟨p, 3, none⟩ (.slice (some ⟨g1, 0, none⟩) (D.lines.length + 1) cap1)).setCell ⟨p, 1, none⟩ (.int .i64 ((bytesOf D.lines : Int) + ((s.size : Int) + 1)))) B p (some g1) ⟨D.room, D.lines ++ [s], D.lasts⟩ ∧
    Touch (onDisk p g) w ((w2.setCell ⟨p, 3, none⟩ (.slice (some ⟨g1, 0, none⟩) (D.lines.length + 1) cap1)).setCell ⟨p, 1, none⟩ (.int .i64 ((bytesOf D.lines : Int) + ((s.size : Int) + 1)))) ∧ (g = some g1 ∨ w.heap.size ≤ g1) := by
  have hlt := ltAt hp
  have hs1 := hB1.size
  have hne : some p ≠ (Value.slice a D.lines.length cap).ownBlock := fun e => by
    rcases hr.2 with ⟨h0, _⟩ | ⟨g', cap', cur, h0, _, hg', _⟩
    · rw [h0] at e; cases e
    · rw [h0] at e
      obtain rfl : p = g' := by simpa [Value.ownBlock] using e
      rw [hp] at hg'
      simp at hg'
  have hp2 : w2.heap[p]? = some (.cells #[.int .i64 D.room, .int .i64 (bytesOf D.lines), .int .i64 D.lasts, .slice a D.lines.length cap] 129 (0, 0)) :=
    (hgrow.block p (by simp; omega) hne).trans ((Below.heap_alloc _ _ _ (by omega)).trans ((hB1.block p hlt).trans hp))
  have hg1 : g = some g1 ∨ w.heap.size ≤ g1 := by
    rcases hat with e | e
    · exact .inl (hv.symm.trans e)
    · exact .inr (by omega)
  have hpg : g1 ≠ p := fun e => by
    rcases hg1 with h | h
    · rw [← hv, e] at h; exact hne h.symm
    · omega
  have hb : ((bytesOf (D.lines ++ [s]) : Nat) : Int) = (bytesOf D.lines : Int) + ((s.size : Int) + 1) := by rw [bytesOf_append]; simp [bytesOf]
  refine ⟨hp2, ⟨⟨hd.ok.low, hd.ok.high, by rw [hb]; exact hroom, by have := hd.ok.lasts; simp; omega⟩, hd.low, .slice (some ⟨g1, 0, none⟩) (D.lines.length + 1) cap1, rfl, ?_, ?_⟩, ?_, hg1⟩
  · have := setAt (j := 1) (setAt (j := 3) hp2 (.slice (some ⟨g1, 0, none⟩) (D.lines.length + 1) cap1)) (.int .i64 ((bytesOf D.lines : Int) + ((s.size : Int) + 1)))
    dsimp only
    rw [hb]
    simpa using this
  · have e1 : (D.lines ++ [s]).length = D.lines.length + 1 := by simp
    have e2 : (D.lines ++ [s]).map Value.string = D.lines.map Value.string ++ [.string s] := by simp
    dsimp only
    rw [e1, e2]
    exact ownsRow_of_heap hown fun k hk => by
      obtain rfl : g1 = k := by simpa [Value.ownBlock] using hk
      exact (Below.heap_setCell _ _ _ _ hpg).trans (Below.heap_setCell _ _ _ _ hpg)
  · refine Touch.set (Touch.set ?_ _ _ (.inl rfl)) _ _ (.inl rfl)
    exact ((touch_new hB1).alloc o).next (S1 := fun k => (Value.slice a D.lines.length cap).ownBlock = some k) ⟨hgrow.os, hgrow.tape, hgrow.output, hgrow.size, fun k hk hn => hgrow.block k hk fun e => hn e.symm⟩ fun i _ e => .inr (hv ▸ e)

set_option maxRecDepth 100000 in
set_option maxHeartbeats 4000000 in
theorem diskWrite_calls (B p : Nat) (g : Option Nat) (D : DiskD) (s : ByteArray) (w : World) (hd : IsDisk w B p g D) (hB : B ≤ w.heap.size) (hs : s.size ≤ 1099511627776) :
    Calls Tryz.prog 137 #[.pointer (some ⟨p, 0, none⟩), .string s] w fun e w' => e = .returned (.int .i64 (writeE D s)) ∧ ∃ g', IsDisk w' B p g' (writeD D s) ∧ Touch (onDisk p g) w w' ∧ (∀ k, g' = some k → g = some k ∨ w.heap.size ≤ k) := by
  obtain ⟨i0, hi0, hz0, hz1, hz2⟩ := info_parts Tryz.info9
  obtain ⟨a, cap, c0, c1, c2, c3, hf, hv, hr, hp⟩ := hd.open
  have hl := hd.len
  have hk0 := hd.ok.low
  have hk1 := hd.ok.high
  have u1 := hide (fun w => Tryz.strings_IndexByte s 10 w)
  rw [show ((10 : Int).toNat.toUInt8 : UInt8) = 10 from rfl] at u1
  have hie := indexByte_ends s
  have hge := Lib.indexByte_ge s.data.toList 10
  generalize Lib.indexByte s.data.toList 10 = i at *
  have f3 := hf 3
  have f1 := hf 1
  have Hd := hide hd
  have Hr := hide hr
  have Hp := hide hp
  have Hv := hide hv
  have HB := hide hB
  clear hd hf hr hp hv hB
  by_cases he : hasEnd s = true
  · have hi : 0 ≤ i := hie.2 he
    have e0 : writeE D s = 2 := by unfold writeE; rw [if_pos he]
    have e1 : writeD D s = D := by unfold writeD; rw [e0, if_neg (by decide)]
    rw [e0, e1]
    clear e0 e1 he hie
    go_enter Tryz.func137, Tryz.ntmps137
    go_wp2_with (go_at_call 187; refine (u1.out _).mono ?_; rintro e w' ⟨rfl, rfl⟩)
    go_ret
    exact ⟨rfl, g, Hd.out, Touch.refl _ _, fun k h => .inl h⟩
  · have hi : ¬ 0 ≤ i := fun h => he (hie.1 h)
    have u2 := hide (fun w => diskSize_calls s w hs)
    have he' := hide he
    clear hie he
    by_cases hr : D.room - (bytesOf D.lines : Int) < (s.size : Int) + 1
    · have e0 : writeE D s = 6 := by unfold writeE; rw [if_neg he'.out, if_pos hr]
      have e1 : writeD D s = D := by unfold writeD; rw [e0, if_neg (by decide)]
      rw [e0, e1]
      clear e0 e1
      go_enter Tryz.func137, Tryz.ntmps137
      go_wp2_with (go_at_call 187; refine (u1.out _).mono ?_; rintro e w' ⟨rfl, rfl⟩)
      go_quiet (first | (go_at_call 97; refine Calls.quiet_of_same (u2.out _)))
      go_wp2
      go_ret
      exact ⟨rfl, g, Hd.out.new (drewsB _ _), touch_new (drewsB _ _), fun k h => .inl h⟩
    · have e0 : writeE D s = 0 := by unfold writeE; rw [if_neg he'.out, if_neg hr]
      have e1 : writeD D s = ⟨D.room, D.lines ++ [s], D.lasts⟩ := by unfold writeD; rw [e0, if_pos rfl]
      rw [e0, e1]
      clear e0 e1
      go_enter Tryz.func137, Tryz.ntmps137
      go_wp2_with (go_at_call 187; refine (u1.out _).mono ?_; rintro e w' ⟨rfl, rfl⟩)
      go_quiet (first | (go_at_call 97; refine Calls.quiet_of_same (u2.out _)))
      go_wp2
      obtain ⟨W0, hW0⟩ : ∃ W0, w'.drewN nq = W0 := ⟨_, rfl⟩
      have hB0 : Below w'.heap.size w' W0 := by rw [← hW0]; exact drewsB _ _
      have d3 : W0.cell? ⟨p, 3, none⟩ = some (.slice a D.lines.length cap) := (hB0.cell (p := ⟨p, 3, none⟩) Hd.out.lt).trans c3
      have k3 : W0.frozen? ⟨p, 3, none⟩ = false := (hB0.frozen (p := ⟨p, 3, none⟩) Hd.out.lt).trans f3
      have Hd0 := hide (Hd.out.new hB0)
      have Hr0 := hide (ownsRow_of_heap Hr.out fun k e => hB0.block k (Hr.out.lt k e).2)
      have Hp0 := hide ((hB0.block p Hd.out.lt).trans Hp.out)
      have hp0 := (Hd.out.new hB0).lt
      rw [hW0]
      clear hW0 c0 c1 c2 c3 f3 f1 u1
      have HBs := hB0.size
      have Hb := HB.out
      have hne0 : some p ≠ (Value.slice a D.lines.length cap).ownBlock := row_not Hr0.out Hp0.out (by decide)
      go_region_law (first
          | ((refine stepCall rfl 174 #[.string s] ?_ (strClone_calls s _ hs) ?_; (· go_simp); rintro e w1 ⟨rfl, hB1⟩; have hs1 : W0.heap.size ≤ w1.heap.size := hB1.size; have d3' : w1.cell? ⟨p, 3, none⟩ = some (.slice a D.lines.length cap) := (hB1.cell (p := ⟨p, 3, none⟩) hp0).trans d3; have d3'' := fun o => Lib.cell?_alloc_some o d3'; refine ⟨_, rfl, ?_⟩))
          | ((refine step_append_lies _ (by rfl) _ _ _ (by rfl) B 9 i0 _ 1 16 Tryz.underlying127 hi0 hz0 hz1 hz2 rfl (by omega) (.slice a D.lines.length cap) D.lines.length (D.lines.map Value.string) (by rfl) (World.ownsRow.alloc (ownsRow_of_heap Hr0.out fun k e => hB1.block k (Hr0.out.lt k e).2) _)
                ⟨w1.heap.size, 0, none⟩ 1 1 [.string s] (by rfl) (by rfl) (World.news_of_block (cs := #[.string s]) (t := 9) (fr := (0, 0)) (heap_alloc_new w1 _)) (by simp [Value.oneCell'])
                (by omega) (by unfold maxLen; omega) (by omega) (by simp; omega) (w1.heap.size + 1) (by simp) ?_; intro g1 cap1 w2 hown hgrow hat hlt;
              obtain ⟨hp2, hd2, ht2, hg2⟩ := write_mem (s := s) Hd0.out (show Below W0.heap.size W0 w1 from ⟨hB1.os, hB1.tape, hB1.output, hB1.size, hB1.block⟩) Hv.out Hp0.out Hr0.out hown hgrow hat (by omega); have e3 := cellsAt hp2 3; have l3 := frozenAt hp2 3; have e1 := cellsAt hp2 1; have l1 := frozenAt hp2 1; simp only [List.getElem?_toArray, List.getElem?_cons_zero, List.getElem?_cons_succ] at e3 e1)))
      all_goals
        obtain ⟨W2, hW2⟩ : ∃ W2, w2.setCell ⟨p, 3, none⟩ (.slice (some ⟨g1, 0, none⟩) (D.lines.length + 1) cap1) = W2 := ⟨_, rfl⟩
        have m1 : W2.cell? ⟨p, 1, none⟩ = some (.int .i64 (bytesOf D.lines)) := by rw [← hW2]; simpa using cellsAt (setAt (j := 3) hp2 _) 1
        have n1 : W2.frozen? ⟨p, 1, none⟩ = false := by rw [← hW2]; exact frozenAt (setAt (j := 3) hp2 _) 1
        rw [hW2] at hd2 ht2
        rw [hW2]
        have T := hide (ht2.of_touch hB0)
        have I := hide hd2
        have G : Hid (g = some g1 ∨ w'.heap.size ≤ g1) := hg2.imp id fun h => Nat.le_trans HBs h
        clear hW2 e3 e1 l3 l1 hp2 hd2 ht2 hg2 hown hgrow hat hlt d3 d3' d3'' k3 hB1 hs1 hB0 Hd0 Hr0 Hp0 hne0 Hd Hr Hp HB
        go_wp2
        refine stillTail 7 (by kernel_rfl) (by kernel_rfl) ?_
        simp only [List.take_succ_cons, List.take_zero, List.drop_succ_cons, List.drop_zero]
        still_step
        still_step
        still_step
        still_step
        still_step
        still_call (u2.out _)
        still_step
        refine wpStill_nil ?_
        go_wp2
        go_ret
        exact ⟨rfl, some g1, I.out.keep fun _ _ => rfl, ⟨T.out.os, T.out.tape, T.out.output, T.out.size, T.out.block⟩, fun k e => by cases e; exact G.out⟩

end Go.Proofs.YtjbjjfndkpcciaaGreatDoor
