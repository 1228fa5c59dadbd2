/- The walk of vec's Text: a vector in words. Own work; no statement. -/
import Derived.Test.YthpahkcncjieiaaDoorW6
import Derived.Test.YthpahkcncjieiaaDoorShelf
import Derived.Laws.BytesArg
import Derived.Lib.ItoaLen
import Derived.Lib.AppendIntMem
import Derived.Lib.UnsafeStr
set_option linter.unusedSimpArgs false
set_option linter.unusedVariables false
namespace Go.Proofs.YthpahkcncjieiaaDoor
open Go.RowKit

theorem conv_row {P : Program} {w : World} {base n : Nat} {e src dst : TypeId} {v : Value} {bs : List UInt8} (h : w.ownsRow base e 1 v n (Lib.byteCells bs))
    (hs : P.underlying src = some (.slice e)) (he : P.underlying e = some (.int .u8)) (hd : P.underlying dst = some .string) : (convert src dst v).run P w = .ok (.string ⟨bs.toArray⟩) w := by
  have hn : bs.length = n := by simpa [Lib.byteCells] using h.1
  have e1 : strOfNums (bs.map fun b => (b.toNat : Int)) = ⟨bs.toArray⟩ := by
    have : (bs.map fun b => (b.toNat : Int)).map (fun n => UInt8.ofNat n.toNat) = bs := by
      rw [List.map_map]
      conv => rhs; rw [← List.map_id bs]
      apply List.map_congr_left
      intro b _
      simp
    unfold strOfNums
    rw [this]
  rcases h.2 with ⟨rfl, rfl⟩ | ⟨g, cap, cur, rfl, hb, hg, hnc, hcm, hcs, ht⟩
  · obtain rfl : bs = [] := List.eq_nil_of_length_eq_zero hn
    exact run_convert_bytes_nil w src e hs he 0 0 dst hd
  · rw [← e1]
    refine run_convert_bytes_arg w src e hs he g 0 n cap _ (by simpa using hn) (fun i hi => ?_) dst hd
    rw [Nat.zero_add, h.cellAt i (by omega)]
    simp [Lib.byteCells, List.getD, show i < bs.length by omega]

/-- The library's table of powers of ten lies where it lay, in this world and in all that come out of it. -/
def Pow (w : World) : Prop := Lib.TabBelow Tryd.prog w.heap.size w "internal/strconv.uint64pow10" .u64 Lib.pow10Tab
theorem Pow.below {w w' : World} (h : Pow w) (hb : Below w.heap.size w w') : Pow w' := fun w2 h2 => h w2 (hb.trans (h2.mono hb.size))

/-- The numbers are such as an int holds. -/
def InR (l : List Int) : Prop := ∀ x ∈ l, -9223372036854775808 ≤ x ∧ x ≤ 9223372036854775807

/-- The first k numbers in words, with blanks between. -/
def numsTo (l : List Int) : Nat → List UInt8
  | 0 => []
  | k + 1 => numsTo l k ++ ((if k = 0 then [] else [32]) ++ Lib.itoa (l.getD k 0))
/-- A vector in words. -/
def textL (l : List Int) : List UInt8 := 91 :: (numsTo l (writtenL l) ++ [93])

theorem getD_inR {l : List Int} (h : InR l) (k : Nat) : -9223372036854775808 ≤ l.getD k 0 ∧ l.getD k 0 ≤ 9223372036854775807 := by
  by_cases hk : k < l.length
  · rw [List.getD, List.getElem?_eq_getElem hk]
    exact h _ (List.getElem_mem hk)
  · rw [List.getD, List.getElem?_eq_none (by omega)]
    simp

theorem numsTo_length {l : List Int} (h : InR l) : ∀ k, (numsTo l k).length ≤ 22 * k
  | 0 => by simp [numsTo]
  | k + 1 => by
    have h1 := numsTo_length h k
    have h2 := Lib.itoa_length_le (l.getD k 0) (getD_inR h k).1 (getD_inR h k).2
    have h3 : ((if k = 0 then [] else [32] : List UInt8)).length ≤ 1 := by split <;> simp
    simp only [numsTo, List.length_append]
    omega

theorem snoc93 (l : List UInt8) : Lib.byteCells l ++ [.int .u8 93] = Lib.byteCells (l ++ [93]) := by simp [Lib.byteCells]
theorem snoc32 (l : List UInt8) : Lib.byteCells l ++ [.int .u8 32] = Lib.byteCells (l ++ [32]) := by simp [Lib.byteCells]

theorem Tryd.info5 : (Tryd.prog.info? 5).map (fun i => (i.zero, i.size, i.bytes)) = some (some (.int .u8 0), 1, 1) := by kernel_rfl

theorem written_nil : ((writtenL [] : Nat) : Int) = 0 := rfl

set_option maxHeartbeats 1000000 in
set_option maxRecDepth 20000 in
theorem text_calls (v : Value) (l : List Int) (w : World) (hv : IsNums .i64 w v l) (hl : l.length ≤ 4294967296) (hr : InR l) (hp : Pow w) :
    Calls Tryd.prog 20 #[v] w fun e w' => e = .returned (.string ⟨(textL l).toArray⟩) ∧ Below w.heap.size w w' := by
  obtain ⟨i0, hi, hz0, hz1, hz2⟩ := info_parts Tryd.info5
  have Hv := hide hv
  have hwl := writtenL_le l
  rcases hv.cases with ⟨rfl, a1, cap, rfl⟩ | ⟨b, o, cap, rfl, -, hcap, hb, hcell⟩
  · have hB0 : Below w.heap.size w (w.alloc (.cells #[.int .u8 91] 5)) := (Below.refl _ _).alloc (Nat.le_refl _) _
    have hown : (w.alloc (.cells #[.int .u8 91] 5)).ownsRow w.heap.size 5 1 (.slice (some ⟨w.heap.size, 0, none⟩) 1 1) 1 (Lib.byteCells [91]) := World.ownsRow_lit _ #[.int .u8 91] 1 (Nat.le_refl _) (by unfold maxLen; omega) rfl
    clear hv hr hp
    go_enter Tryd.func20, Tryd.ntmps20
    go_wp2_with (go_at_call 39; refine (written_calls _ [] _ (Hv.out.below hB0) (by simp)).mono ?_; rintro e w' ⟨rfl, rfl⟩; rw [written_nil])
    refine wp_loop_rounds 1 ?_
    rw [rounds_succ]
    have hbs := hB0.size
    go_wp2_with (at_builtin; refine wpList_append_own _ rfl (.tmp 26) _ 77 rfl w.heap.size 5 i0 (.int .u8 0) 1 1 Tryd.underlying77 hi hz0 hz1 hz2 rfl (by decide) _ _ _ rfl (hown.alloc _) ⟨_, 0, none⟩ 1 1 [.int .u8 93] rfl rfl (cell_one_at (by simp)) (by intro u hu; simp at hu; subst hu; rfl) (by unfold maxLen; omega) (by omega) (by simp; omega) ?_; intro v1 w1 hown1 hgrow1 _; rw [snoc93] at hown1; have hcv := conv_row (dst := 9) hown1 Tryd.underlying77 Tryd.underlying5 Tryd.underlying9)
    go_ret
    exact ⟨by simp [textL, writtenL, numsTo], (hB0.alloc hB0.size _).grown hgrow1 (by simp; omega) (fun j hj => (hown.lt j hj).1)⟩
  · obtain ⟨m, hm⟩ : ∃ m, writtenL l = m := ⟨_, rfl⟩
    have Hm := hide hm
    rw [hm] at hwl
    have Hcell := hide hcell
    have HR := hide hr
    have HP := hide hp
    clear hcell hv hr hp hm
    have hB0 : Below w.heap.size w (w.alloc (.cells #[.int .u8 91] 5)) := (Below.refl _ _).alloc (Nat.le_refl _) _
    have hown0 : (w.alloc (.cells #[.int .u8 91] 5)).ownsRow w.heap.size 5 1 (.slice (some ⟨w.heap.size, 0, none⟩) 1 1) 1 (Lib.byteCells [91]) := World.ownsRow_lit _ #[.int .u8 91] 1 (Nat.le_refl _) (by unfold maxLen; omega) rfl
    go_enter Tryd.func20, Tryd.ntmps20
    go_wp2_with (go_at_call 39; refine (written_calls _ l _ (Hv.out.below hB0) (by omega)).mono ?_; rintro e w' ⟨rfl, rfl⟩; rw [Hm.out])
    go_loopw [3, 12] (fun v i wr => ∃ k : Nat, i = .int .i64 (k : Int) ∧ k ≤ m ∧ wr.ownsRow w.heap.size 5 1 v (91 :: numsTo l k).length (Lib.byteCells (91 :: numsTo l k)) ∧ Below w.heap.size w wr) (fun _ i _ => m - (intOf i).toNat)
    case atStart => exact ⟨0, rfl, Nat.zero_le _, hown0, hB0⟩
    case round =>
      clear hown0 hB0
      obtain ⟨k, rfl, hkn, hown, hB⟩ := hrel
      have hnl : (numsTo l k).length ≤ 22 * k := numsTo_length HR.out k
      have hbs := hB.size
      obtain ⟨L, hL⟩ : ∃ L, 91 :: numsTo l k = L := ⟨_, rfl⟩
      rw [hL] at hown
      have hLl : L.length ≤ 22 * k + 1 := by rw [← hL]; simp; omega
      replace hL := hide hL
      by_cases hk : k < m
      · have hlt : (k : Int) < (m : Int) := by omega
        have hcl : wr.cell? ⟨b, o + k, none⟩ = _ := (hB.cell (p := ⟨b, o + k, none⟩) hb).trans (Hcell.out k (by omega))
        have hxr := getD_inR HR.out k
        generalize hx : l.getD k 0 = x at hcl hxr
        have hsucc : numsTo l (k + 1) = numsTo l k ++ ((if k = 0 then [] else [32]) ++ Lib.itoa x) := by rw [numsTo, hx]
        replace hsucc := hide hsucc
        replace hx := hide hx
        obtain ⟨hx0, hx1⟩ := hxr
        by_cases hk0 : k = 0
        · have hk1 : ¬ 0 < (k : Int) := by omega
          replace hk0 := hide hk0
          go_wp2_with (go_at_call 40; refine (Tryd.strconv_AppendInt_10 w.heap.size _ x hx0 hx1 _ _ _ hown hbs (by omega) (Lib.TabBelow.on HP.out hB)).mono ?_; rintro e w2 ⟨v2, rfl, hown2, hB2, -⟩)
          refine ⟨⟨k + 1, by go_num, by omega, ?_, hB.trans hB2⟩, by simp [intOf]; omega⟩
          rw [hsucc.out, if_pos hk0.out, List.nil_append, ← List.cons_append, hL.out, List.length_append, Lib.byteCells_append]
          exact hown2
        · have hk1 : 0 < (k : Int) := by omega
          go_wp2_with (first | (at_builtin; refine wpList_append_own _ rfl (.tmp 19) _ 77 rfl w.heap.size 5 i0 (.int .u8 0) 1 1 Tryd.underlying77 hi hz0 hz1 hz2 rfl (by decide) _ _ _ rfl (hown.alloc _) ⟨_, 0, none⟩ 1 1 [.int .u8 32] rfl rfl (cell_one_at (by simp)) (by intro u hu; simp at hu; subst hu; rfl) (by unfold maxLen; omega) (by omega) (by simp; omega) ?_; intro v1 w1 hown1 hgrow1 _; rw [snoc32] at hown1; have hB1 : Below w.heap.size w w1 := (hB.alloc hB.size _).grown hgrow1 (by simp; omega) (fun j hj => (hown.lt j hj).1); have hbs1 := hB1.size; clear hgrow1) | (go_at_call 40; refine (Tryd.strconv_AppendInt_10 w.heap.size _ x hx0 hx1 v1 _ w1 hown1 hbs1 (by omega) (Lib.TabBelow.on HP.out hB1)).mono ?_; rintro e w2 ⟨v2, rfl, hown2, hB2, -⟩))
          refine ⟨⟨k + 1, by go_num, by omega, ?_, hB1.trans hB2⟩, by simp [intOf]; omega⟩
          rw [hsucc.out, if_neg hk0, ← List.append_assoc, ← List.cons_append, ← List.cons_append, hL.out, List.length_append, List.length_append, Lib.byteCells_append]
          exact hown2
      · go_wp2_with (at_builtin; refine wpList_append_own _ rfl (.tmp 26) _ 77 rfl w.heap.size 5 i0 (.int .u8 0) 1 1 Tryd.underlying77 hi hz0 hz1 hz2 rfl (by decide) _ _ _ rfl (hown.alloc _) ⟨_, 0, none⟩ 1 1 [.int .u8 93] rfl rfl (cell_one_at (by simp)) (by intro u hu; simp at hu; subst hu; rfl) (by unfold maxLen; omega) (by omega) (by simp; omega) ?_; intro v1 w1 hown1 hgrow1 _; rw [snoc93] at hown1; have hcv := conv_row (dst := 9) hown1 Tryd.underlying77 Tryd.underlying5 Tryd.underlying9)
        go_ret
        refine ⟨?_, ?_⟩
        · have hkm : k = m := by omega
          rw [← hL.out, hkm, ← Hm.out]
          rfl
        · exact (hB.alloc hB.size _).grown hgrow1 (by simp; omega) (fun j hj => (hown.lt j hj).1)

end Go.Proofs.YthpahkcncjieiaaDoor
