/- DiskRoom: the walk. Own work; no statement. -/
import Derived.Test.YtheaifgoleklpaaWDiskTwins
set_option linter.unusedSimpArgs false
set_option linter.unusedVariables false
namespace Go.Proofs.Ytheaifgoleklpaa
open Go.RowKit Go.Shelf

/-- So many x, then noughts. -/
def fillL (Z j : Nat) : List UInt8 := List.replicate j 120 ++ List.replicate (Z - j) 0
theorem fillL_length {Z j : Nat} (h : j ≤ Z) : (fillL Z j).length = Z := by simp [fillL]; omega
theorem fillL_step {Z j : Nat} (h : j < Z) : (Lib.byteCells (fillL Z j)).toArray.setIfInBounds j (.int .u8 120) = (Lib.byteCells (fillL Z (j + 1))).toArray := by
  apply Array.ext_getElem?
  intro i
  rw [Array.getElem?_setIfInBounds]
  simp only [fillL, Lib.byteCells, List.map_append, List.map_replicate, List.getElem?_toArray, List.size_toArray, List.length_append, List.length_replicate]
  by_cases e : j = i
  · subst e
    rw [if_pos rfl, if_pos (by omega), List.getElem?_append_left (by simp)]
    simp
  · rw [if_neg e]
    by_cases h2 : i < j
    · rw [List.getElem?_append_left (by simpa using h2), List.getElem?_append_left (by simp; omega)]
      simp [h2, show i < j + 1 by omega]
    · rw [List.getElem?_append_right (by simp; omega), List.getElem?_append_right (by simp; omega)]
      simp only [List.length_replicate, List.getElem?_replicate]
      by_cases h3 : i < Z
      · rw [if_pos (by omega), if_pos (by omega)]
      · rw [if_neg (by omega), if_neg (by omega)]

theorem wf_u16 {n : Int} (h : (Lit.int .u16 n).wf = true) : 0 ≤ n ∧ n ≤ 65535 := by
  have h' : (decide (IntKind.u16.min ≤ n) && decide (n ≤ IntKind.u16.max)) = true := h
  simp only [Bool.and_eq_true, decide_eq_true_eq] at h'
  exact h'

theorem fill_noEnd (Z : Nat) : hasEnd ⟨(fillL Z Z).toArray⟩ = false := by
  unfold hasEnd
  rw [decide_eq_false]
  simp [fillL]


set_option maxRecDepth 100000 in
set_option maxHeartbeats 8000000 in
theorem diskRoom_main (room : Int) (v : Value) (l : List Int) (w : World) (hr : (Lit.int .u16 room).wf = true) (hv : IsNums .u8 w v l) (hwl : ∀ n ∈ l, (Lit.int .u8 n).wf = true) :
    Calls Try.prog 5 #[.int .u16 room, v] w fun e w' => e = .returned (.bool true) ∧ Below w.heap.size w w' := by
  obtain ⟨r0, r1⟩ := wf_u16 hr
  obtain ⟨i0, hi, hz0, hz1, hz2⟩ := info_parts Try.info5
  obtain ⟨a, cap, rfl, hcap, -⟩ := id hv
  obtain ⟨R, hR⟩ : ∃ R : Nat, room.tmod 2000 = (R : Int) := by
    rw [Int.tmod_eq_emod_of_nonneg r0]
    exact Int.eq_ofNat_of_zero_le (Int.emod_nonneg _ (by omega))
  have hRl : R < 2000 := by
    have : room.tmod 2000 < 2000 := by rw [Int.tmod_eq_emod_of_nonneg r0]; exact Int.emod_lt_of_pos _ (by omega)
    omega
  have Hv := hide hv
  have Hwl := hide hwl
  clear hv hwl hr hcap
  go_enter Try.func5, Try.ntmps5
  go_wp2_with fail
  refine (diskKnown_calls w).mono ?_
  rintro e w1 ⟨rfl, b1⟩
  by_cases hl : l.length ≤ 40
  · have hlI : ¬ (40 : Int) < (l.length : Int) := by omega
    go_wp2_with fail
    refine (diskNew_calls (1 + (R : Int)) w1 (by omega) (by omega)).mono ?_
    rintro e w2 ⟨rfl, d2, t2⟩
    have b2 := b1.trans (t2.mono b1.size)
    have hp := b1.size
    obtain ⟨p, hpe⟩ : ∃ p, w1.heap.size = p := ⟨_, rfl⟩
    rw [hpe] at d2 hp ⊢
    clear t2 hpe b1 hR
    go_wp2_with fail
    go_loopw [8, 9, 10] (fun lf c i wr => ∃ (k : Nat) (g : Option Nat) (ls : List ByteArray), lf = .int .i64 (1 + (R : Int) - (bytesOf ls : Int)) ∧ c = .int .i64 (ls.length : Int) ∧ i = .int .i64 (k : Int) ∧ k ≤ l.length ∧ IsDisk wr p p g ⟨1 + (R : Int), ls, 0⟩ ∧ Below w.heap.size w wr) (fun _ _ i _ => l.length - (intOf i).toNat)
    case atStart => exact ⟨0, none, [], by simp [bytesOf], rfl, rfl, Nat.zero_le _, d2, b2⟩
    case round =>
      clear d2 b2
      obtain ⟨k, g, ls, rfl, rfl, rfl, hk, hd, hB⟩ := hrel
      have Hd := hide hd
      have HB := hide hB
      clear hd hB
      by_cases hlt : k < l.length
      · have hltI : (k : Int) < (l.length : Int) := by omega
        rcases (Hv.out.below HB.out).cases with ⟨rfl, -⟩ | ⟨b, o, cap', e, -, -, -, hcell⟩
        · simp at hlt
        simp only [Value.slice.injEq] at e
        obtain ⟨rfl, -, rfl⟩ := e
        have hc := hcell k hlt
        have hz := Hwl.out (l.getD k 0) (by rw [List.getD, List.getElem?_eq_getElem hlt]; exact List.getElem_mem _)
        obtain ⟨z, hze⟩ : ∃ z, l.getD k 0 = z := ⟨_, rfl⟩
        rw [hze] at hc hz
        obtain ⟨z0, z1⟩ := wf_u8 hz
        obtain ⟨Z, rfl⟩ := Int.eq_ofNat_of_zero_le z0
        clear hcell hze hz z0
        have hZ : Z ≤ 255 := by omega
        have hpw : p ≤ wr.heap.size := by have := Hd.out.lt; omega
        obtain ⟨by0, hby0⟩ : ∃ y, bytesOf ls = y := ⟨_, rfl⟩
        have hbl : (by0 : Int) ≤ 1 + (R : Int) := by rw [← hby0]; exact Hd.out.ok.fits
        have Hby := hide hby0
        rw [hby0]
        clear hby0
        go_wp2_with (at_make; refine wpList_make_full _ rfl _ _ 53 rfl wr.heap.size 5 i0 (.int .u8 0) 1 Try.underlying53 hi hz0 hz1 _ _ _ _ Z rfl rfl rfl rfl ?b2 ?b3 (Nat.le_refl _) ?_)
        case b2 => rw [hz2]; omega
        case b3 => unfold maxLen; omega
        intro w3 hown3 hgrow3
        have hb3 : Below wr.heap.size wr w3 := (Below.refl _ _).grown hgrow3 (Nat.le_refl _) (fun k h => by cases h)
        have hown4 : w3.ownsRow wr.heap.size 5 1 (.slice (some ⟨wr.heap.size, 0, none⟩) Z Z) Z (Lib.byteCells (fillL Z 0)) := by
          rw [toList_madeCells_one] at hown3
          simpa [fillL, Lib.byteCells] using hown3
        clear hown3 hgrow3
        obtain ⟨q, hq⟩ : ∃ q, wr.heap.size = q := ⟨_, rfl⟩
        rw [hq] at hown4 hb3 ⊢
        have Hq := hide hq
        clear hq
        go_wp2_with fail
        go_loopw [12] (fun x wq => ∃ j : Nat, x = .int .i64 (j : Int) ∧ j ≤ Z ∧ wq.ownsRow q 5 1 (.slice (some ⟨q, 0, none⟩) Z Z) Z (Lib.byteCells (fillL Z j)) ∧ Below q wr wq) (fun x _ => Z - (intOf x).toNat)
        case atStart => exact ⟨0, rfl, Nat.zero_le _, hown4, hb3⟩
        case round =>
          clear hown4 hb3
          obtain ⟨j, rfl, hj, hown, hbq⟩ := hrel
          by_cases hjZ : j < Z
          · have hjI : (j : Int) < (Z : Int) := by omega
            have hc2 := hown.cellAt j (by simp [Lib.byteCells, fillL_length hj]; omega)
            unfold Lib.byteCells at hc2
            rw [List.getElem?_map, List.getElem?_eq_getElem (by rw [fillL_length hj]; omega), Option.map_some] at hc2
            generalize ((fillL Z j)[j]'(by rw [fillL_length hj]; omega)).toNat = old at hc2
            have hf := hown.frozenAt j
            obtain ⟨hown2, hg2⟩ := hown.stored j (.int .u8 120)
            have HO := hide hown2
            clear hown hown2 hg2
            go_wp2_with fail
            refine ⟨⟨j + 1, by go_num, by omega, ?_, hbq.setCell (p := ⟨q, j, none⟩) (Nat.le_refl _) _⟩, by simp [intOf]; omega⟩
            have e := congrArg Array.toList (fillL_step hjZ)
            simp only [Array.toList_setIfInBounds] at e
            rw [← e]
            exact HO.out
          · have hjI : ¬ (j : Int) < (Z : Int) := by omega
            obtain rfl : j = Z := by omega
            have cv := conv_row (dst := 9) hown Try.underlying53 Try.underlying5 Try.underlying9
            have hend := fill_noEnd j
            have hsz : (⟨(fillL j j).toArray⟩ : ByteArray).size = j := by show (fillL j j).toArray.size = j; simp [fillL]
            obtain ⟨s, hs⟩ : ∃ s : ByteArray, ⟨(fillL j j).toArray⟩ = s := ⟨_, rfl⟩
            rw [hs] at cv hend hsz
            have d3 := hide (Hd.out.new (by rw [Hq.out]; exact hbq))
            have b3 := hide (HB.out.trans (hbq.mono (by have := HB.out.size; have := Hq.out; omega)))
            have hq3 : p ≤ wr.heap.size := by have := d3.out.lt; omega
            clear hown hs hbq
            by_cases hroom : (1 + (R : Int) - (by0 : Int)) < (j : Int) + 1
            · have Hwe : Hid (writeE ⟨1 + (R : Int), ls, 0⟩ s = 6) := by
                show writeE ⟨1 + (R : Int), ls, 0⟩ s = 6
                unfold writeE
                rw [if_neg (by rw [hend]; decide), if_pos]
                dsimp only
                rw [Hby.out, hsz]
                exact hroom
              have Hwd : Hid (writeD ⟨1 + (R : Int), ls, 0⟩ s = ⟨1 + (R : Int), ls, 0⟩) := by
                show writeD ⟨1 + (R : Int), ls, 0⟩ s = ⟨1 + (R : Int), ls, 0⟩
                unfold writeD
                rw [if_neg (by rw [Hwe.out]; decide)]
              have Hsz : Hid (s.size ≤ 1099511627776) := by show s.size ≤ 1099511627776; omega
              clear hsz hend
              go_wp2_with fail
              refine (diskWrite_to _ _ _ _ _ 6 _ Hwe.out Hwd.out _ d3.out hq3 Hsz.out).mono ?_
              rintro e w5 ⟨rfl, g5, d5, t5, -⟩
              have b5 := hide (b3.out.trans ((d3.out.below hq3 t5).mono (by omega)))
              have D5 := hide d5
              clear t5 d5 cv
              go_wp2_with fail
              refine ⟨⟨k + 1, g5, ls, by rw [Hby.out], rfl, by go_num, by omega, D5.out, b5.out⟩, by simp [intOf]; omega⟩
            · have Hwe : Hid (writeE ⟨1 + (R : Int), ls, 0⟩ s = 0) := by
                show writeE ⟨1 + (R : Int), ls, 0⟩ s = 0
                unfold writeE
                rw [if_neg (by rw [hend]; decide), if_neg]
                dsimp only
                rw [Hby.out, hsz]
                exact hroom
              have Hwd : Hid (writeD ⟨1 + (R : Int), ls, 0⟩ s = ⟨1 + (R : Int), ls ++ [s], 0⟩) := by
                show writeD ⟨1 + (R : Int), ls, 0⟩ s = ⟨1 + (R : Int), ls ++ [s], 0⟩
                unfold writeD
                rw [if_pos Hwe.out]
              have Hsz : Hid (s.size ≤ 1099511627776) := by show s.size ≤ 1099511627776; omega
              have Hby2 : Hid (bytesOf (ls ++ [s]) = by0 + j + 1) := by
                show bytesOf (ls ++ [s]) = by0 + j + 1
                rw [bytesOf_append, Hby.out, show bytesOf [s] = s.size + 1 from rfl, hsz]
                omega
              have Hl2 : Hid ((ls ++ [s]).length = ls.length + 1) := by show (ls ++ [s]).length = ls.length + 1; simp
              have hll : ls.length ≤ by0 := by have := bytesOf_length ls; rw [Hby.out] at this; exact this
              clear hsz hend
              go_wp2_with fail
              refine (diskWrite_to _ _ _ _ _ 0 _ Hwe.out Hwd.out _ d3.out hq3 Hsz.out).mono ?_
              rintro e w5 ⟨rfl, g5, d5, t5, -⟩
              have b5 := hide (b3.out.trans ((d3.out.below hq3 t5).mono (by omega)))
              have D5 := hide d5
              clear t5 d5 cv
              have hub : ((by0 : Int) + (j : Int) + 1 != 1 + (R : Int) - (1 + (R : Int) - (by0 : Int) - (j : Int) - 1)) = false := by
                rw [bne_eq_false_iff_eq]; omega
              have hnb : ((ls.length : Int) + 1 != (ls.length : Int) + 1) = false := by simp
              go_wp2_with fail
              refine (diskUsed_to _ _ _ _ ((by0 : Int) + (j : Int) + 1) (by dsimp only; rw [Hby2.out]; omega) _ D5.out).mono ?_
              rintro e w6 ⟨rfl, hw6⟩
              subst hw6
              go_wp2_with fail
              refine (diskLen_to _ _ _ _ ((ls.length : Int) + 1) (by dsimp only; rw [Hl2.out]; omega) _ D5.out).mono ?_
              rintro e w7 ⟨rfl, hw7⟩
              subst hw7
              go_wp2_with fail
              refine (diskWaits_to _ _ _ _ ((ls.length : Int) + 1) (by dsimp only; rw [Hl2.out]; omega) _ D5.out).mono ?_
              rintro e w8 ⟨rfl, n8, hw8⟩
              have d8 := hide (D5.out.drews n8)
              have b8 := hide (b5.out.trans ((drewsB _ n8).mono b5.out.size))
              rw [← hw8] at d8 b8
              clear hw8
              go_wp2_with fail
              refine ⟨⟨k + 1, g5, ls ++ [s], ?_, ?_, by go_num, by omega, d8.out, b8.out⟩, by simp [intOf]; omega⟩
              · rw [Hby2.out]; congr 1; omega
              · rw [Hl2.out]; congr 1
      · go_wp2
        go_ret
        exact ⟨rfl, HB.out⟩
  · have hlI : (40 : Int) < (l.length : Int) := by omega
    go_wp2
    go_ret
    exact ⟨rfl, b1⟩

end Go.Proofs.Ytheaifgoleklpaa
