/- The walk of the law VecPuts. Own work; no statement. -/
import Derived.Test.YtepadjcmmkglfaaDoorRefA
import Derived.OpenShut
set_option linter.unusedSimpArgs false
set_option linter.unusedVariables false
namespace Go.Proofs.YtepadjcmmkglfaaDoor
open Go.RowKit Go.Shelf

theorem stretchL_get (l : List Int) (n k : Nat) : (stretchL l n).getD k 0 = l.getD k 0 := by
  unfold stretchL
  by_cases hk : k < l.length
  · rw [List.getD, List.getElem?_append_left hk]; rfl
  · rw [getD_out l k (by omega), List.getD, List.getElem?_append_right (by omega), List.getElem?_replicate]
    split <;> rfl
theorem withL_get (l : List Int) (i : Nat) (n : Int) (hi : i ≤ 63) (k : Nat) : (withL l i n).getD k 0 = if k = i then n else l.getD k 0 := by
  unfold withL
  rw [if_neg (by omega), Int.toNat_natCast]
  have hl : i < (stretchL l (max l.length (i + 1))).length := by rw [stretchL_length _ _ (by omega)]; omega
  split
  · rename_i h
    subst h
    rw [getD_in _ _ (by rw [List.length_set]; exact hl)]
    simp
  · rename_i h
    rw [List.getD, List.getElem?_set_ne (by omega), ← List.getD, stretchL_get]
theorem withL_out (l : List Int) (i n : Int) (h : i < 0 ∨ 63 < i) : withL l i n = l := by unfold withL; rw [if_pos h]
theorem withL_length (l : List Int) (i n : Int) : (withL l i n).length ≤ max l.length 64 := by
  unfold withL
  split
  · omega
  · rw [List.length_set, stretchL_length _ _ (by omega)]; omega
theorem same_refl (l : List Int) : everyB eqB l l = true := by rw [same_iff]; intro i; rfl
theorem with_back (l : List Int) (i : Nat) (n : Int) (hi : i ≤ 63) : everyB eqB (withL (withL l i n) i (geti l i)) l = true := by
  rw [same_iff]
  intro k
  rw [withL_get _ _ _ hi, withL_get _ _ _ hi, geti_nat]
  split
  · rename_i h; rw [h]
  · rfl

set_option maxRecDepth 100000 in
set_option maxHeartbeats 4000000 in
theorem vecPuts_main (va : Value) (a : List Int) (at_ : Int) (n : Int) (w : World) (ha : IsNums .u16 w va a) (wa : ∀ n ∈ a, (Lit.int .u16 n).wf = true) (wi : (Lit.int .u8 at_).wf = true) (wn : (Lit.int .u16 n).wf = true) (hp : Pow w) :
    Calls Tryd.prog 8 #[va, .int .u8 at_, .int .u16 n] w fun e w' => e = .returned (.bool true) ∧ Below w.heap.size w w' := by
  have ra := hide (show InB 65535 a from fun x hx => bounds_u16 (wa x hx))
  obtain ⟨n0, n1⟩ := bounds_u16 wn
  obtain ⟨i0, i1⟩ := bounds_u8 wi
  obtain ⟨pa, capa, rfl, -, -⟩ := id ha
  replace ha := hide ha
  replace hp := hide hp
  clear wa wi wn
  by_cases h1 : (8 : Int) < (a.length : Int)
  · go_enter Tryd.func8, Tryd.ntmps8
    go_wp2_with fail
    refine (known_calls _ hp.out).mono ?_
    rintro e w1 ⟨rfl, hB⟩
    go_wp2_with fail
    go_ret
    exact ⟨rfl, hB⟩
  · have la : a.length ≤ 8 := by omega
    go_enter Tryd.func8, Tryd.ntmps8
    go_wp2_with fail
    refine (known_calls _ hp.out).mono ?_
    rintro e w1 ⟨rfl, hB⟩
    replace ha := hide (ha.out.below hB)
    go_wp2_with fail
    refine (up_calls _ a _ ha.out (by omega) (fun x hx => by have := ra.out x hx; omega)).mono ?_
    rintro e w2 ⟨vx, rfl, hx, hB1⟩
    replace ha := hide (ha.out.below hB1)
    replace hx := hide hx
    replace hB := hB.trans (hB1.mono hB.size)
    clear hB1
    go_wp2_with fail
    obtain ⟨i, hi⟩ : ∃ i : Nat, at_ % 64 = (i : Int) := ⟨(at_ % 64).toNat, by omega⟩
    have hi63 : i ≤ 63 := by omega
    rw [hi]
    clear hi i0 i1
    refine (with_calls _ a (i : Int) n _ hx.out (by omega)).mono ?_
    rintro e w3 ⟨vw, rfl, hw, hB1⟩
    replace ha := hide (ha.out.below hB1)
    replace hx := hide (hx.out.below hB1)
    replace hw := hide hw
    replace hB := hB.trans (hB1.mono hB.size)
    clear hB1
    have lw := withL_length a i n
    have gw := hide (withL_get a i n hi63)
    have back := hide (with_back a i n hi63)
    generalize withL a (i : Int) n = W at *
    go_wp2_with fail
    go_loop [10] (fun j => ∃ k : Nat, j = .int .i64 (k : Int) ∧ k ≤ 70) (fun j => 70 - (intOf j).toNat)
    case atStart => exact ⟨0, rfl, Nat.zero_le _⟩
    case round =>
      obtain ⟨k, rfl, hk⟩ := hrel
      by_cases hk70 : k < 70
      · have hkI : (k : Int) < 70 := by omega
        by_cases hki : k = i
        · have e1 : ((k : Int) == (i : Int)) = true := by simp [hki]
          have e2 : ((k : Int) != (i : Int)) = false := by simp [hki]
          have e3 : geti W k = n := by rw [geti_nat, gw.out, if_pos hki]
          have e4 : (geti W k != n) = false := by simp [e3]
          clear e3 hki
          go_wp2_with (go_at_call_of 11 vw; refine (get_calls _ W _ _ hw.out (by omega)).mono ?_; rintro e w' ⟨rfl, rfl⟩)
          exact ⟨⟨k + 1, by go_num, by omega⟩, by simp [intOf]; omega⟩
        · have e1 : ((k : Int) == (i : Int)) = false := by simp; omega
          have e2 : ((k : Int) != (i : Int)) = true := by simp; omega
          have e3 : geti W k = geti a k := by rw [geti_nat, geti_nat, gw.out, if_neg hki]
          have e4 : (geti W k != geti a k) = false := by simp [e3]
          clear e3 hki
          go_wp2_with (first | (go_at_call_of 11 vw; refine (get_calls _ W _ _ hw.out (by omega)).mono ?_; rintro e w' ⟨rfl, rfl⟩) | (go_at_call_of 11 vx; refine (get_calls _ a _ _ hx.out (by omega)).mono ?_; rintro e w' ⟨rfl, rfl⟩))
          exact ⟨⟨k + 1, by go_num, by omega⟩, by simp [intOf]; omega⟩
      · have hkI : ¬ (k : Int) < 70 := by omega
        go_wp2_with fail
        refine (get_calls _ a _ _ hx.out (by omega)).mono ?_
        rintro e w' ⟨rfl, rfl⟩
        go_wp2_with fail
        refine (with_calls _ W (i : Int) (geti a i) _ hw.out (by omega)).mono ?_
        rintro e w4 ⟨vu, rfl, hu, hB1⟩
        replace ha := hide (ha.out.below hB1)
        replace hx := hide (hx.out.below hB1)
        replace hu := hide hu
        replace hB := hB.trans (hB1.mono hB.size)
        clear hB1
        go_wp2_with fail
        refine (same_calls _ _ _ a _ hu.out hx.out (by have := withL_length W i (geti a i); omega) (by omega)).mono ?_
        rintro e w' ⟨rfl, rfl⟩
        rw [back.out]
        go_wp2_with fail
        refine (with_calls _ a 64 9 _ hx.out (by omega)).mono ?_
        rintro e w5 ⟨vu2, rfl, hu2, hB1⟩
        rw [withL_out a 64 9 (by omega)] at hu2
        replace ha := hide (ha.out.below hB1)
        replace hx := hide (hx.out.below hB1)
        replace hu2 := hide hu2
        replace hB := hB.trans (hB1.mono hB.size)
        clear hB1
        go_wp2_with fail
        refine (same_calls _ _ a a _ hu2.out hx.out (by omega) (by omega)).mono ?_
        rintro e w' ⟨rfl, rfl⟩
        rw [same_refl]
        go_wp2_with fail
        refine (with_calls _ a (-1) 9 _ hx.out (by omega)).mono ?_
        rintro e w6 ⟨vu3, rfl, hu3, hB1⟩
        rw [withL_out a (-1) 9 (by omega)] at hu3
        replace ha := hide (ha.out.below hB1)
        replace hx := hide (hx.out.below hB1)
        replace hu3 := hide hu3
        replace hB := hB.trans (hB1.mono hB.size)
        clear hB1
        go_wp2_with fail
        refine (same_calls _ _ a a _ hu3.out hx.out (by omega) (by omega)).mono ?_
        rintro e w' ⟨rfl, rfl⟩
        rw [same_refl]
        go_wp2_with fail
        refine (up_calls _ a _ ha.out (by omega) (fun x hx => by have := ra.out x hx; omega)).mono ?_
        rintro e w7 ⟨vz, rfl, hz, hB1⟩
        replace hx := hide (hx.out.below hB1)
        replace hz := hide hz
        replace hB := hB.trans (hB1.mono hB.size)
        clear hB1
        go_wp2_with fail
        refine (refSame_calls _ _ a a _ hx.out hz.out (by omega) (by omega)).mono ?_
        rintro e w' ⟨rfl, rfl⟩
        rw [same_refl]
        go_wp2_with fail
        go_ret
        exact ⟨rfl, hB⟩

end Go.Proofs.YtepadjcmmkglfaaDoor
