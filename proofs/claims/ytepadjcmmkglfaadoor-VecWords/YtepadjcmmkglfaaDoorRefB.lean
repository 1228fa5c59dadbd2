/- The walks of the reference's Decimal, VecText, With. Own work; no statement. -/
import Derived.Test.YtepadjcmmkglfaaDoorRefA
import Derived.Test.YtepadjcmmkglfaaDoorWords
set_option linter.unusedSimpArgs false
set_option linter.unusedVariables false
namespace Go.Proofs.YtepadjcmmkglfaaDoor
open Go.RowKit Go.Shelf

def headD (u : Nat) : List UInt8 := if u < 10 then [] else Lib.decDigits (u / 10)
theorem digits_head (u : Nat) : Lib.decDigits u = headD u ++ [UInt8.ofNat (48 + u % 10)] := by
  rw [Lib.decDigits]
  unfold headD
  split
  · rename_i h
    rw [Nat.mod_eq_of_lt h]; rfl
  · rfl
theorem cons_bytes (b : UInt8) (S : List UInt8) : (⟨#[b]⟩ : ByteArray) ++ ⟨S.toArray⟩ = ⟨(b :: S).toArray⟩ := by
  apply ByteArray.ext
  simp [ByteArray.data_append]
theorem conv_one (w : World) (b : UInt8) (c : Int) (hc : (b.toNat : Int) = c) : (convert 64 9 (.slice (some ⟨w.heap.size, 0, none⟩) 1 1)).run Tryd.prog (w.alloc (.cells #[.int .u8 c] 5)) = .ok (.string ⟨#[b]⟩) (w.alloc (.cells #[.int .u8 c] 5)) := by
  subst hc
  have h : (w.alloc (.cells #[.int .u8 (b.toNat : Int)] 5)).ownsRow 0 5 1 (.slice (some ⟨w.heap.size, 0, none⟩) 1 1) 1 (Lib.byteCells [b]) := World.ownsRow_lit _ #[.int .u8 (b.toNat : Int)] 1 (Nat.zero_le _) (by unfold maxLen; omega) rfl
  exact conv_row h Tryd.underlying64 Tryd.underlying5 Tryd.underlying9

set_option maxRecDepth 100000 in
set_option maxHeartbeats 1000000 in
theorem refDecNat_calls (u : Nat) (w : World) (hu : (u : Int) ≤ 9223372036854775807) :
    Calls Tryd.prog 43 #[.int .i64 (u : Int)] w fun e w' => e = .returned (.string ⟨(Lib.decDigits u).toArray⟩) ∧ Below w.heap.size w w' := by
  have hu0 : ¬ (u : Int) < 0 := by omega
  have hd0 := hide (digits_head u)
  obtain ⟨b0, hb0⟩ : ∃ b, UInt8.ofNat (48 + u % 10) = b := ⟨_, rfl⟩
  have hc0 := fun w => conv_one w b0 (48 + (u : Int) % 10) (by rw [← hb0, digit_val _ (by omega)]; omega)
  rw [hb0] at hd0
  clear hb0
  go_enter Tryd.func43, Tryd.ntmps43
  go_wp2_with fail
  clear hc0
  go_loopw [0, 3] (fun nv s wr => ∃ (m : Nat) (S : List UInt8), nv = .int .i64 (m : Int) ∧ s = .string ⟨S.toArray⟩ ∧ m ≤ u ∧ S.length + m ≤ u + 1 ∧ Lib.decDigits u = headD m ++ S ∧ Below w.heap.size w wr) (fun nv _ _ => (intOf nv).toNat)
  case atStart => exact ⟨u, [b0], rfl, rfl, Nat.le_refl _, by simp; omega, hd0.out, alloc_below _ _⟩
  case round =>
    obtain ⟨m, S, rfl, rfl, hmu, hsl, hS, hB⟩ := hrel
    have hmI : (m : Int) ≤ 9223372036854775807 := by omega
    by_cases hm : 10 ≤ (m : Int)
    · have hd1 := digits_head (m / 10)
      obtain ⟨b1, hb1⟩ : ∃ b, UInt8.ofNat (48 + m / 10 % 10) = b := ⟨_, rfl⟩
      have hc1 := fun w => conv_one w b1 (48 + (m : Int) / 10 % 10) (by rw [← hb1, digit_val _ (by omega)]; omega)
      rw [hb1] at hd1
      clear hb1
      have hS2 : Lib.decDigits u = headD (m / 10) ++ (b1 :: S) := by
        rw [hS, headD, if_neg (by omega), hd1, List.append_assoc]; rfl
      replace hS2 := hide hS2
      clear hd1 hS
      go_wp2_with fail
      refine ⟨⟨m / 10, b1 :: S, by simp, by rw [cons_bytes], by omega, by simp; omega, hS2.out, hB.alloc hB.size _⟩, by simp [intOf]; omega⟩
    · have e : headD m = [] := by unfold headD; rw [if_pos (by omega)]
      rw [e, List.nil_append] at hS
      replace hS := hide hS
      clear e
      go_wp2_with fail
      go_ret
      exact ⟨by rw [hS.out]; rfl, hB⟩

def lenOf' : Value → Nat
  | .slice _ n _ => n
  | _ => 0
theorem stretchL_succ (l : List Int) (k : Nat) (h : l.length ≤ k) : stretchL l (k + 1) = stretchL l k ++ [0] := by
  unfold stretchL
  rw [show k + 1 - l.length = (k - l.length) + 1 by omega, List.replicate_succ', List.append_assoc]

set_option maxRecDepth 100000 in
set_option maxHeartbeats 2000000 in
theorem refWith_calls (v : Value) (l : List Int) (i n : Int) (w : World) (hv : IsNums .i64 w v l) (hl : l.length ≤ 1048576) :
    Calls Tryd.prog 15 #[v, .int .i64 i, .int .i64 n] w fun e w' => ∃ v', e = .returned v' ∧ IsNums .i64 w' v' (withL l i n) ∧ Below w.heap.size w w' := by
  obtain ⟨i0, hi, hz0, hz1, hz2⟩ := info_parts Tryd.info3
  have hrow0 : (w.alloc (.cells #[] 3)).ownsRow w.heap.size 3 1 (.slice (some ⟨w.heap.size, 0, none⟩) 0 0) 0 [] := World.ownsRow_lit w #[] 0 (Nat.le_refl _) (by unfold maxLen; omega) rfl
  rcases hv.cases with ⟨rfl, a1, cap, rfl⟩ | ⟨b, o, capa, rfl, -, hcap, hb, hcell⟩
  · cases a1 with
    | none =>
      by_cases h : i < 0 ∨ 63 < i
      · have E := hide (show withL [] i n = [] by rw [withL, if_pos h])
        rcases h with h | h
        · go_enter Tryd.func15, Tryd.ntmps15
          go_wp2_with fail
          go_ret
          exact ⟨_, rfl, by rw [E.out]; exact IsNums.nil _ _ _ _, (alloc_below w _)⟩
        · have h0 : ¬ i < 0 := by omega
          go_enter Tryd.func15, Tryd.ntmps15
          go_wp2_with fail
          go_ret
          exact ⟨_, rfl, by rw [E.out]; exact IsNums.nil _ _ _ _, (alloc_below w _)⟩
      · have e : withL [] i n = (stretchL [] (max ([] : List Int).length (i.toNat + 1))).set i.toNat n := by rw [withL, if_neg h]
        obtain ⟨q, rfl⟩ := Int.eq_ofNat_of_zero_le (show 0 ≤ i by omega)
        rw [Int.toNat_natCast] at e
        have E := hide e
        clear e
        have h0 : ¬ (q : Int) < 0 := by omega
        have h1 : ¬ 63 < (q : Int) := by omega
        clear h
        obtain ⟨l, hl0⟩ : ∃ l : List Int, l = [] := ⟨_, rfl⟩
        replace E := hide (show withL [] (q : Int) n = (stretchL l (max l.length (q + 1))).set q n by rw [hl0]; exact E.out)
        have hl00 : l.length = 0 := by rw [hl0]; rfl
        have hrow1 : (w.alloc (.cells #[] 3)).ownsRow w.heap.size 3 1 (.slice (some ⟨w.heap.size, 0, none⟩) 0 0) l.length (l.map (Value.int .i64)) := by rw [hl0]; exact hrow0
        clear hl0
        go_enter Tryd.func15, Tryd.ntmps15
        go_wp2_with fail
        go_loopw [7] (fun v wr => ∃ k : Nat, l.length ≤ k ∧ k ≤ max l.length (q + 1) ∧ wr.ownsRow w.heap.size 3 1 v k ((stretchL l k).map (Value.int .i64)) ∧ Below w.heap.size w wr) (fun v _ => q + 1 - lenOf' v)
        case atStart => exact ⟨l.length, Nat.le_refl _, by omega, by rw [stretchL_self]; exact hrow1, (alloc_below w _)⟩
        case round =>
          obtain ⟨k, hk1, hk2, hown, hB⟩ := hrel
          have hbs := hB.size
          by_cases hle : (k : Int) ≤ (q : Int)
          · obtain ⟨pv, cv, rfl⟩ := ownsRow_slice hown
            go_wp2_with (at_builtin; refine wpList_append_own _ rfl _ _ 22 rfl w.heap.size 3 i0 (.int .i64 0) 1 8 Tryd.underlying22 hi hz0 hz1 hz2 rfl (by decide) _ _ _ rfl (hown.alloc _) ⟨wr.heap.size, 0, none⟩ 1 1 [.int .i64 0] rfl rfl (cell_one_new _ _ _) (by intro u hu; simp at hu; subst hu; rfl) (by unfold maxLen; omega) (by omega) (by simp; omega) ?_; intro v2 w2 hown2 hgrow2 _)
            obtain ⟨pv2, cv2, rfl⟩ := ownsRow_slice hown2
            refine ⟨⟨k + 1, by omega, by omega, ?_, (hB.alloc hB.size _).grown hgrow2 (by simp; omega) (fun j hj => (hown.lt j hj).1)⟩, by simp [lenOf']; omega⟩
            rw [stretchL_succ l k hk1, List.map_append]
            exact hown2
          · have hkm : k = max l.length (q + 1) := by omega
            obtain ⟨k0, rfl⟩ : ∃ k0, k = k0 + 1 := ⟨k - 1, by omega⟩
            obtain rfl : q = k0 := by omega
            obtain ⟨gg, cv, rfl⟩ := ownsRow_succ hown
            have hc := hown.cellAt q (by omega)
            have hf := hown.frozenAt q
            have hlq : (q : Int) < (q : Int) + 1 := by omega
            obtain ⟨hown2, hg2⟩ := hown.stored q (.int .i64 n)
            rw [List.getElem?_map, List.getElem?_eq_getElem (by rw [stretchL_length _ _ hk1]; omega), Option.map_some] at hc
            generalize (stretchL l (q + 1))[q]'(by rw [stretchL_length _ _ hk1]; omega) = old at hc
            have hlt := (hown.lt gg rfl).1
            have HO := hide hown2
            replace hkm := hide hkm
            clear hown hown2 hg2
            go_wp2_with fail
            go_ret
            refine ⟨_, rfl, ?_, hB.setCell (p := ⟨gg, q, none⟩) hlt _⟩
            have := HO.out
            rw [← List.map_set] at this
            rw [E.out, ← hkm.out]
            exact IsNums.of_row this
    | some ad =>
      by_cases h : i < 0 ∨ 63 < i
      · have E := hide (show withL [] i n = [] by rw [withL, if_pos h])
        rcases h with h | h
        · go_enter Tryd.func15, Tryd.ntmps15
          go_wp2_with fail
          go_ret
          exact ⟨_, rfl, by rw [E.out]; exact IsNums.nil _ _ _ _, (alloc_below w _)⟩
        · have h0 : ¬ i < 0 := by omega
          go_enter Tryd.func15, Tryd.ntmps15
          go_wp2_with fail
          go_ret
          exact ⟨_, rfl, by rw [E.out]; exact IsNums.nil _ _ _ _, (alloc_below w _)⟩
      · have e : withL [] i n = (stretchL [] (max ([] : List Int).length (i.toNat + 1))).set i.toNat n := by rw [withL, if_neg h]
        obtain ⟨q, rfl⟩ := Int.eq_ofNat_of_zero_le (show 0 ≤ i by omega)
        rw [Int.toNat_natCast] at e
        have E := hide e
        clear e
        have h0 : ¬ (q : Int) < 0 := by omega
        have h1 : ¬ 63 < (q : Int) := by omega
        clear h
        obtain ⟨l, hl0⟩ : ∃ l : List Int, l = [] := ⟨_, rfl⟩
        replace E := hide (show withL [] (q : Int) n = (stretchL l (max l.length (q + 1))).set q n by rw [hl0]; exact E.out)
        have hl00 : l.length = 0 := by rw [hl0]; rfl
        have hrow1 : (w.alloc (.cells #[] 3)).ownsRow w.heap.size 3 1 (.slice (some ⟨w.heap.size, 0, none⟩) 0 0) l.length (l.map (Value.int .i64)) := by rw [hl0]; exact hrow0
        clear hl0
        go_enter Tryd.func15, Tryd.ntmps15
        go_wp2_with fail
        go_loopw [7] (fun v wr => ∃ k : Nat, l.length ≤ k ∧ k ≤ max l.length (q + 1) ∧ wr.ownsRow w.heap.size 3 1 v k ((stretchL l k).map (Value.int .i64)) ∧ Below w.heap.size w wr) (fun v _ => q + 1 - lenOf' v)
        case atStart => exact ⟨l.length, Nat.le_refl _, by omega, by rw [stretchL_self]; exact hrow1, (alloc_below w _)⟩
        case round =>
          obtain ⟨k, hk1, hk2, hown, hB⟩ := hrel
          have hbs := hB.size
          by_cases hle : (k : Int) ≤ (q : Int)
          · obtain ⟨pv, cv, rfl⟩ := ownsRow_slice hown
            go_wp2_with (at_builtin; refine wpList_append_own _ rfl _ _ 22 rfl w.heap.size 3 i0 (.int .i64 0) 1 8 Tryd.underlying22 hi hz0 hz1 hz2 rfl (by decide) _ _ _ rfl (hown.alloc _) ⟨wr.heap.size, 0, none⟩ 1 1 [.int .i64 0] rfl rfl (cell_one_new _ _ _) (by intro u hu; simp at hu; subst hu; rfl) (by unfold maxLen; omega) (by omega) (by simp; omega) ?_; intro v2 w2 hown2 hgrow2 _)
            obtain ⟨pv2, cv2, rfl⟩ := ownsRow_slice hown2
            refine ⟨⟨k + 1, by omega, by omega, ?_, (hB.alloc hB.size _).grown hgrow2 (by simp; omega) (fun j hj => (hown.lt j hj).1)⟩, by simp [lenOf']; omega⟩
            rw [stretchL_succ l k hk1, List.map_append]
            exact hown2
          · have hkm : k = max l.length (q + 1) := by omega
            obtain ⟨k0, rfl⟩ : ∃ k0, k = k0 + 1 := ⟨k - 1, by omega⟩
            obtain rfl : q = k0 := by omega
            obtain ⟨gg, cv, rfl⟩ := ownsRow_succ hown
            have hc := hown.cellAt q (by omega)
            have hf := hown.frozenAt q
            have hlq : (q : Int) < (q : Int) + 1 := by omega
            obtain ⟨hown2, hg2⟩ := hown.stored q (.int .i64 n)
            rw [List.getElem?_map, List.getElem?_eq_getElem (by rw [stretchL_length _ _ hk1]; omega), Option.map_some] at hc
            generalize (stretchL l (q + 1))[q]'(by rw [stretchL_length _ _ hk1]; omega) = old at hc
            have hlt := (hown.lt gg rfl).1
            have HO := hide hown2
            replace hkm := hide hkm
            clear hown hown2 hg2
            go_wp2_with fail
            go_ret
            refine ⟨_, rfl, ?_, hB.setCell (p := ⟨gg, q, none⟩) hlt _⟩
            have := HO.out
            rw [← List.map_set] at this
            rw [E.out, ← hkm.out]
            exact IsNums.of_row this
  · have hnews : ∀ j u, (l.map (Value.int .i64))[j]? = some u → (w.alloc (.cells #[] 3)).cell? ((⟨b, o, none⟩ : Addr).add j) = some u := by
      intro j u hu
      rw [List.getElem?_map] at hu
      by_cases hj : j < l.length
      · rw [List.getElem?_eq_getElem hj, Option.map_some] at hu
        cases hu
        rw [Lib.add_plain]
        rw [World.cell?_alloc_past _ _ _ hb, hcell j hj, getD_in l j hj]
      · rw [List.getElem?_eq_none (by omega)] at hu
        simp at hu
    clear hcell hv
    by_cases h : i < 0 ∨ 63 < i
    · have E := hide (show withL l i n = l by rw [withL, if_pos h])
      rcases h with h | h
      · go_enter Tryd.func15, Tryd.ntmps15
        go_wp2_with (at_builtin; refine wpList_append_own _ rfl _ _ 22 rfl w.heap.size 3 i0 (.int .i64 0) 1 8 Tryd.underlying22 hi hz0 hz1 hz2 rfl (by decide) _ _ _ rfl hrow0 ⟨b, o, none⟩ l.length capa (l.map (Value.int .i64)) rfl (by simp) hnews (by intro u hu; simp at hu; obtain ⟨x, -, rfl⟩ := hu; rfl) (by unfold maxLen; omega) (by omega) (by simp) ?_; intro v1 w1 hown1 hgrow1 _; rw [Nat.zero_add, List.nil_append] at hown1; have hB1 : Below w.heap.size w w1 := (alloc_below w _).grown hgrow1 (by simp) (fun j hj => (hrow0.lt j hj).1); clear hgrow1)
        go_ret
        exact ⟨_, rfl, by rw [E.out]; exact IsNums.of_row hown1, hB1⟩
      · have h0 : ¬ i < 0 := by omega
        go_enter Tryd.func15, Tryd.ntmps15
        go_wp2_with (at_builtin; refine wpList_append_own _ rfl _ _ 22 rfl w.heap.size 3 i0 (.int .i64 0) 1 8 Tryd.underlying22 hi hz0 hz1 hz2 rfl (by decide) _ _ _ rfl hrow0 ⟨b, o, none⟩ l.length capa (l.map (Value.int .i64)) rfl (by simp) hnews (by intro u hu; simp at hu; obtain ⟨x, -, rfl⟩ := hu; rfl) (by unfold maxLen; omega) (by omega) (by simp) ?_; intro v1 w1 hown1 hgrow1 _; rw [Nat.zero_add, List.nil_append] at hown1; have hB1 : Below w.heap.size w w1 := (alloc_below w _).grown hgrow1 (by simp) (fun j hj => (hrow0.lt j hj).1); clear hgrow1)
        go_ret
        exact ⟨_, rfl, by rw [E.out]; exact IsNums.of_row hown1, hB1⟩
    · have e : withL l i n = (stretchL l (max (l : List Int).length (i.toNat + 1))).set i.toNat n := by rw [withL, if_neg h]
      obtain ⟨q, rfl⟩ := Int.eq_ofNat_of_zero_le (show 0 ≤ i by omega)
      rw [Int.toNat_natCast] at e
      have E := hide e
      clear e
      have h0 : ¬ (q : Int) < 0 := by omega
      have h1 : ¬ 63 < (q : Int) := by omega
      clear h
      go_enter Tryd.func15, Tryd.ntmps15
      go_wp2_with (at_builtin; refine wpList_append_own _ rfl _ _ 22 rfl w.heap.size 3 i0 (.int .i64 0) 1 8 Tryd.underlying22 hi hz0 hz1 hz2 rfl (by decide) _ _ _ rfl hrow0 ⟨b, o, none⟩ l.length capa (l.map (Value.int .i64)) rfl (by simp) hnews (by intro u hu; simp at hu; obtain ⟨x, -, rfl⟩ := hu; rfl) (by unfold maxLen; omega) (by omega) (by simp) ?_; intro v1 w1 hown1 hgrow1 _; rw [Nat.zero_add, List.nil_append] at hown1; have hB1 : Below w.heap.size w w1 := (alloc_below w _).grown hgrow1 (by simp) (fun j hj => (hrow0.lt j hj).1); clear hgrow1)
      go_loopw [7] (fun v wr => ∃ k : Nat, l.length ≤ k ∧ k ≤ max l.length (q + 1) ∧ wr.ownsRow w.heap.size 3 1 v k ((stretchL l k).map (Value.int .i64)) ∧ Below w.heap.size w wr) (fun v _ => q + 1 - lenOf' v)
      case atStart => exact ⟨l.length, Nat.le_refl _, by omega, by rw [stretchL_self]; exact hown1, hB1⟩
      case round =>
        obtain ⟨k, hk1, hk2, hown, hB⟩ := hrel
        have hbs := hB.size
        by_cases hle : (k : Int) ≤ (q : Int)
        · obtain ⟨pv, cv, rfl⟩ := ownsRow_slice hown
          go_wp2_with (at_builtin; refine wpList_append_own _ rfl _ _ 22 rfl w.heap.size 3 i0 (.int .i64 0) 1 8 Tryd.underlying22 hi hz0 hz1 hz2 rfl (by decide) _ _ _ rfl (hown.alloc _) ⟨wr.heap.size, 0, none⟩ 1 1 [.int .i64 0] rfl rfl (cell_one_new _ _ _) (by intro u hu; simp at hu; subst hu; rfl) (by unfold maxLen; omega) (by omega) (by simp; omega) ?_; intro v2 w2 hown2 hgrow2 _)
          obtain ⟨pv2, cv2, rfl⟩ := ownsRow_slice hown2
          refine ⟨⟨k + 1, by omega, by omega, ?_, (hB.alloc hB.size _).grown hgrow2 (by simp; omega) (fun j hj => (hown.lt j hj).1)⟩, by simp [lenOf']; omega⟩
          rw [stretchL_succ l k hk1, List.map_append]
          exact hown2
        · have hkm : k = max l.length (q + 1) := by omega
          obtain ⟨k0, rfl⟩ : ∃ k0, k = k0 + 1 := ⟨k - 1, by omega⟩
          obtain ⟨gg, cv, rfl⟩ := ownsRow_succ hown
          have hc := hown.cellAt q (by omega)
          have hf := hown.frozenAt q
          have hlq : (q : Int) < (k0 : Int) + 1 := by omega
          obtain ⟨hown2, hg2⟩ := hown.stored q (.int .i64 n)
          rw [List.getElem?_map, List.getElem?_eq_getElem (by rw [stretchL_length _ _ hk1]; omega), Option.map_some] at hc
          generalize (stretchL l (k0 + 1))[q]'(by rw [stretchL_length _ _ hk1]; omega) = old at hc
          have hlt := (hown.lt gg rfl).1
          have HO := hide hown2
          replace hkm := hide hkm
          clear hown hown2 hg2
          go_wp2_with fail
          go_ret
          refine ⟨_, rfl, ?_, hB.setCell (p := ⟨gg, q, none⟩) hlt _⟩
          have := HO.out
          rw [← List.map_set] at this
          rw [E.out, ← hkm.out]
          exact IsNums.of_row this

end Go.Proofs.YtepadjcmmkglfaaDoor
