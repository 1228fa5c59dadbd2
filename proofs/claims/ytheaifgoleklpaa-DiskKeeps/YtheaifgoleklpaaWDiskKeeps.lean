/- DiskKeeps: the walk. Own work; no statement. -/
import Derived.Test.YtheaifgoleklpaaWDiskTwins
set_option linter.unusedSimpArgs false
set_option linter.unusedVariables false
namespace Go.Proofs.Ytheaifgoleklpaa
open Go.RowKit Go.Shelf

theorem keepN_mono : ∀ (l : List ByteArray) (a b : Int), a ≤ b → keepN l a ≤ keepN l b
  | [], _, _, _ => Nat.le_refl _
  | s :: r, a, b, h => by
    unfold keepN
    by_cases h1 : (s.size : Int) + 1 ≤ a
    · rw [if_pos h1, if_pos (by omega)]
      have := keepN_mono r (a - ((s.size : Int) + 1)) (b - ((s.size : Int) + 1)) (by omega)
      omega
    · rw [if_neg h1]
      exact Nat.zero_le _

theorem noEnd {s : ByteArray} (h : ∀ i (hi : i < s.size), s[i] ≠ 10) : hasEnd s = false := by
  unfold hasEnd
  rw [decide_eq_false]
  intro hm
  obtain ⟨i, hi, e⟩ := List.mem_iff_getElem.1 hm
  exact h i hi e

theorem bytesOf_small {l : List ByteArray} (h : ∀ s ∈ l, s.size ≤ 100) : bytesOf l ≤ 101 * l.length := by
  induction l with
  | nil => simp [bytesOf]
  | cons x r ih =>
    have h1 := h x (by simp)
    have h2 := ih fun s hs => h s (by simp [hs])
    simp [bytesOf] at *
    omega

set_option maxRecDepth 100000 in
set_option maxHeartbeats 8000000 in
theorem diskKeeps_main (v : Value) (l : List ByteArray) (n x y : Int) (w : World) (hv : IsStrs w v l) (hsz : ∀ s ∈ l, s.size ≤ maxLen) (hn : (Lit.int .u8 n).wf = true) (hx : (Lit.int .u8 x).wf = true) (hy : (Lit.int .u8 y).wf = true) :
    Calls Try.prog 4 #[v, .int .u8 n, .int .u8 x, .int .u8 y] w fun e w' => e = .returned (.bool true) ∧ Below w.heap.size w w' := by
  obtain ⟨n0, n1⟩ := wf_u8 hn
  obtain ⟨x0, x1⟩ := wf_u8 hx
  obtain ⟨y0, y1⟩ := wf_u8 hy
  obtain ⟨a, cap, rfl, hcap, -⟩ := id hv
  obtain ⟨m, hm⟩ : ∃ m : Nat, n.tmod ((l.length : Int) + 1) = (m : Int) := by
    rw [Int.tmod_eq_emod_of_nonneg n0]
    exact Int.eq_ofNat_of_zero_le (Int.emod_nonneg _ (by omega))
  have hml : m ≤ l.length := by
    have : n.tmod ((l.length : Int) + 1) < (l.length : Int) + 1 := by rw [Int.tmod_eq_emod_of_nonneg n0]; exact Int.emod_lt_of_pos _ (by omega)
    omega
  have Hv := hide hv
  have Hsz := hide hsz
  clear hv hsz hn hx hy
  go_enter Try.func4, Try.ntmps4
  go_wp2_with fail
  refine (diskKnown_calls w).mono ?_
  rintro e w1 ⟨rfl, b1⟩
  by_cases hl : l.length ≤ 20
  · have hlI : ¬ (20 : Int) < (l.length : Int) := by omega
    go_wp2_with fail
    refine (diskNew_calls 100000 w1 (by decide) (by decide)).mono ?_
    rintro e w2 ⟨rfl, d2, t2⟩
    have b2 := b1.trans (t2.mono b1.size)
    have hp := b1.size
    obtain ⟨p, hpe⟩ : ∃ p, w1.heap.size = p := ⟨_, rfl⟩
    rw [hpe] at d2 hp ⊢
    clear t2 hpe b1
    have hne : ¬ (l.length : Int) + 1 = 0 := by omega
    go_wp2_with fail
    clear hm
    go_loopw [12] (fun i wr => ∃ (k : Nat) (g : Option Nat), i = .int .i64 (k : Int) ∧ k ≤ l.length ∧ (∀ s ∈ l.take k, s.size ≤ 100) ∧ IsDisk wr p p g ⟨100000, l.take k, if m ≤ k then m else 0⟩ ∧ Below w.heap.size w wr) (fun i _ => l.length - (intOf i).toNat)
    case atStart =>
      refine ⟨0, none, rfl, Nat.zero_le _, by simp, ?_, b2⟩
      have : (if m ≤ 0 then m else 0) = 0 := by split <;> omega
      rw [this]
      exact d2
    case round =>
      clear d2 b2
      obtain ⟨k, g, rfl, hk, hsm, hd, hB⟩ := hrel
      have Hd := hide hd
      have HB := hide hB
      have Hsm := hide hsm
      clear hd hB hsm
      by_cases hlt : k < l.length
      · have hltI : (k : Int) < (l.length : Int) := by omega
        obtain ⟨a', cap', e, -, hcell⟩ := Hv.out.below HB.out
        simp only [Value.slice.injEq] at e
        obtain ⟨rfl, -, rfl⟩ := e
        obtain ⟨b, o, rfl, hc⟩ := hcell k hlt
        have hs := Hsz.out l[k] (List.getElem_mem hlt)
        unfold maxLen at hs
        have htk : Hid (l.take (k + 1) = l.take k ++ [l[k]]) := by
          show l.take (k + 1) = l.take k ++ [l[k]]
          rw [List.take_add_one, List.getElem?_eq_getElem hlt, Option.toList_some]
        have Htl : Hid ((l.take k).length = k) := by show (l.take k).length = k; simp; omega
        obtain ⟨s, hse⟩ : ∃ s, l[k] = s := ⟨_, rfl⟩
        rw [hse] at hc hs htk
        clear hcell hse
        by_cases h100 : 100 < s.size
        · have h100I : (100 : Int) < (s.size : Int) := by omega
          go_wp2
          go_ret
          exact ⟨rfl, HB.out⟩
        · have h100I : ¬ (100 : Int) < (s.size : Int) := by omega
          have hpw : p ≤ wr.heap.size := by have := Hd.out.lt; omega
          go_wp2_with fail
          go_loop [13] (fun x => ∃ j : Nat, j ≤ s.size ∧ x = .int .i64 (j : Int) ∧ ∀ i (hi : i < s.size), i < j → s[i] ≠ 10) (fun x => s.size - (intOf x).toNat)
          case atStart => exact ⟨0, Nat.zero_le _, rfl, fun i _ h => by omega⟩
          case round =>
            obtain ⟨j, hj, rfl, hall⟩ := hrel
            have Hall := hide hall
            clear hall
            by_cases hjs : j < s.size
            · have hjI : (j : Int) < (s.size : Int) := by omega
              by_cases h10 : s[j] = 10
              · have hb : (((s[j].toNat : Nat) : Int) == 10) = true := by rw [h10]; rfl
                clear h10
                go_wp2_with fail
                go_ret
                exact ⟨rfl, HB.out⟩
              · have hb : (((s[j].toNat : Nat) : Int) == 10) = false := by
                  rw [beq_eq_false_iff_ne]
                  intro e
                  exact h10 (UInt8.toNat_inj.1 (by show s[j].toNat = 10; omega))
                have H10 := hide h10
                clear h10
                go_wp2_with fail
                refine ⟨⟨j + 1, by omega, by go_num, fun i hi h => ?_⟩, by simp [intOf]; omega⟩
                by_cases e : i = j
                · subst e; exact H10.out
                · exact Hall.out i hi (by omega)
            · have hjI : ¬ (j : Int) < (s.size : Int) := by omega
              have hend := noEnd fun i hi => Hall.out i hi (by omega)
              have hwe : writeE ⟨100000, l.take k, if m ≤ k then m else 0⟩ s = 0 := by
                unfold writeE
                rw [if_neg (by rw [hend]; decide), if_neg]
                have h1 := bytesOf_small Hsm.out
                have h2 := Htl.out
                dsimp only
                omega
              have Hwe := hide hwe
              have Hwd : Hid (writeD ⟨100000, l.take k, if m ≤ k then m else 0⟩ s = ⟨100000, l.take (k + 1), if m ≤ k then m else 0⟩) := by
                show writeD ⟨100000, l.take k, if m ≤ k then m else 0⟩ s = ⟨100000, l.take (k + 1), if m ≤ k then m else 0⟩
                unfold writeD
                rw [if_pos hwe, htk.out]
              have Hsm2 : Hid (∀ u ∈ l.take (k + 1), u.size ≤ 100) := fun u hu => by
                rw [htk.out] at hu
                rcases List.mem_append.1 hu with h | h
                · exact Hsm.out u h
                · rw [List.mem_singleton.1 h]; omega
              have Htl2 : Hid ((l.take (k + 1)).length = k + 1) := by show (l.take (k + 1)).length = k + 1; simp; omega
              clear hwe hend
              by_cases hkm : k + 1 = m
              · have hkb : (((k : Int) + 1) == (m : Int)) = true := by simp; omega
                have Hkm := hide hkm
                clear hkm
                go_wp2_with fail
                refine (diskWrite_to _ _ _ _ s 0 _ Hwe.out Hwd.out _ Hd.out hpw (by omega)).mono ?_
                rintro e w3 ⟨rfl, g3, d3, t3, -⟩
                have b3 := HB.out.trans ((Hd.out.below hpw t3).mono (by omega))
                go_wp2_with fail
                refine (diskSync_to _ _ _ _ m (Htl2.out.trans Hkm.out) _ d3).mono ?_
                rintro e w4 ⟨rfl, d4, t4⟩
                have b4 := b3.trans ((d3.below (by have := t3.size; omega) t4).mono (by omega))
                go_wp2_with fail
                refine ⟨⟨k + 1, g3, by go_num, by omega, Hsm2.out, ?_, b4⟩, by simp [intOf]; omega⟩
                rw [if_pos (by have := Hkm.out; omega)]
                exact d4
              · have hkb : (((k : Int) + 1) == (m : Int)) = false := by simp; omega
                have Hkm := hide hkm
                clear hkm
                go_wp2_with fail
                refine (diskWrite_to _ _ _ _ s 0 _ Hwe.out Hwd.out _ Hd.out hpw (by omega)).mono ?_
                rintro e w3 ⟨rfl, g3, d3, t3, -⟩
                have b3 := HB.out.trans ((Hd.out.below hpw t3).mono (by omega))
                go_wp2_with fail
                refine ⟨⟨k + 1, g3, by go_num, by omega, Hsm2.out, ?_, b3⟩, by simp [intOf]; omega⟩
                rw [show (if m ≤ k + 1 then m else 0) = if m ≤ k then m else 0 by have := Hkm.out; split <;> split <;> omega]
                exact d3
      · obtain rfl : k = l.length := by omega
        have d0 := Hd.out
        rw [if_pos hml, List.take_of_length_le (Nat.le_refl _)] at d0
        obtain ⟨X, hX⟩ : ∃ X, wholeN ⟨100000, l, m⟩ x = X := ⟨_, rfl⟩
        obtain ⟨Y, hY⟩ : ∃ Y, wholeN ⟨100000, l, m⟩ (x + y) = Y := ⟨_, rfl⟩
        have hXm : m ≤ X := by rw [← hX]; exact Nat.le_add_right _ _
        have hXY : X ≤ Y := by rw [← hX, ← hY]; exact Nat.add_le_add_left (keepN_mono _ _ _ (by omega)) _
        have hYl : Y ≤ l.length := by rw [← hY]; exact wholeN_le d0.ok _
        have HcX : Hid (crashD ⟨100000, l, m⟩ x = ⟨100000, l.take X, X⟩) := by show crashD ⟨100000, l, m⟩ x = ⟨100000, l.take X, X⟩; unfold crashD; rw [hX]
        have HcY : Hid (crashD ⟨100000, l, m⟩ (x + y) = ⟨100000, l.take Y, Y⟩) := by show crashD ⟨100000, l, m⟩ (x + y) = ⟨100000, l.take Y, Y⟩; unfold crashD; rw [hY]
        have HlX : Hid ((l.take X).length = X) := by show (l.take X).length = X; simp; omega
        have HlY : Hid ((l.take Y).length = Y) := by show (l.take Y).length = Y; simp; omega
        have q1 : ¬ (X : Int) < (m : Int) := by omega
        have q2 : ¬ (Y : Int) < (X : Int) := by omega
        have q3 : ¬ (l.length : Int) < (Y : Int) := by omega
        have q4 : (X : Int) ≤ (cap : Int) := by omega
        have q5 : (Y : Int) ≤ (cap : Int) := by omega
        have q6 : X ≤ 20 := by omega
        have q7 : Y ≤ 20 := by omega
        have Dd := hide d0
        have hpw : p ≤ wr.heap.size := by have := Dd.out.lt; omega
        clear d0 Hd hX hY Hsm
        go_wp2_with fail
        refine (diskTwin_calls _ _ _ _ _ Dd.out).mono ?_
        rintro e w3 ⟨rfl, gt, dt, t3⟩
        have ap := hide (apart_new Dd.out dt (Nat.le_refl _))
        have d3 := hide (Dd.out.new t3)
        have b3 := hide (HB.out.trans (t3.mono HB.out.size))
        obtain ⟨q, hq⟩ : ∃ q, wr.heap.size = q := ⟨_, rfl⟩
        have dt3 := hide (dt.lower hpw)
        rw [hq] at ap dt3 ⊢
        have s3 : p ≤ w3.heap.size := by have := d3.out.lt; omega
        clear dt t3 Dd HB hq
        go_wp2_with fail
        refine (diskCrash_to _ _ _ _ x _ HcX.out _ d3.out (by omega) (by omega)).mono ?_
        rintro e w4 ⟨rfl, d4, t4⟩
        have dt4 := hide (dt3.out.touch t4 ap.out.symm)
        have b4 := hide (b3.out.trans ((d3.out.below s3 t4).mono (by omega)))
        have D4 := hide d4
        have s4 : p ≤ w4.heap.size := by have := t4.size; omega
        clear d4 t4 d3 dt3 b3 s3
        go_wp2_with fail
        refine (diskCrash_to _ _ _ _ (x + y) _ HcY.out _ dt4.out (by omega) (by omega)).mono ?_
        rintro e w5 ⟨rfl, dt5, t5⟩
        have d5 := hide (D4.out.touch t5 ap.out)
        have b5 := hide (b4.out.trans ((dt4.out.below s4 t5).mono (by omega)))
        have Dt5 := hide dt5
        clear dt5 t5 D4 dt4 b4 s4
        go_wp2_with fail
        refine (diskLines_calls _ _ _ _ _ d5.out).mono ?_
        rintro e w6 ⟨bs, rfl, -, hseq, t6⟩
        dsimp only at hseq
        have d6 := hide (d5.out.new t6)
        have dt6 := hide (Dt5.out.new t6)
        have b6 := hide (b5.out.trans (t6.mono b5.out.size))
        clear d5 Dt5 b5 t6
        go_wp2_with fail
        refine (lawLines3_calls _ 30 _ _ hseq (by rw [HlX.out]; omega) (by decide)).mono ?_
        rintro e w7 ⟨vx, rfl, rx, t7⟩
        have d7 := hide (d6.out.new t7)
        have dt7 := hide (dt6.out.new t7)
        have b7 := hide (b6.out.trans (t7.mono b6.out.size))
        obtain ⟨ax, cx, rfl⟩ := ownsRow_slice rx
        rw [HlX.out] at rx ⊢
        have r7 := hide rx
        clear d6 dt6 b6 t7 hseq rx
        go_wp2_with fail
        refine (diskLines_calls _ _ _ _ _ dt7.out).mono ?_
        rintro e w8 ⟨bs2, rfl, -, hseq2, t8⟩
        dsimp only at hseq2
        have d8 := hide (d7.out.new t8)
        have b8 := hide (b7.out.trans (t8.mono b7.out.size))
        have r8 := hide (row_new r7.out t8)
        clear d7 dt7 b7 r7 t8
        go_wp2_with fail
        refine (lawLines3_calls _ 30 _ _ hseq2 (by rw [HlY.out]; omega) (by decide)).mono ?_
        rintro e w9 ⟨vy, rfl, ry, t9⟩
        have d9 := hide (d8.out.new t9)
        have b9 := hide (b8.out.trans (t9.mono b8.out.size))
        have r9 := hide (row_new r8.out t9)
        obtain ⟨ay, cy, rfl⟩ := ownsRow_slice ry
        rw [HlY.out] at ry ⊢
        have z9 := hide ry
        clear d8 b8 r8 t9 hseq2 ry
        go_wp2_with fail
        refine (diskWaits_to _ _ _ _ 0 (by dsimp only; rw [HlX.out]; omega) _ d9.out).mono ?_
        rintro e w10 ⟨rfl, n10, hw10⟩
        have b10 := hide (b9.out.trans ((drewsB w9 n10).mono b9.out.size))
        have i1 := hide ((IsStrs.of_row (l := l.take X) (by rw [HlX.out]; exact r9.out)).below (drewsB w9 n10))
        have i2 := hide ((IsStrs.of_row (l := l.take Y) (by rw [HlY.out]; exact z9.out)).below (drewsB w9 n10))
        rw [← hw10] at b10 i1 i2
        have j1 := hide ((Hv.out.below b10.out).front X (by omega))
        have j2 := hide ((Hv.out.below b10.out).front Y (by omega))
        clear hw10 d9 b9 r9 z9
        go_wp2_with fail
        refine (sameLines3_calls _ _ (l.take X) (l.take X) _ i1.out j1.out (by rw [HlX.out]; omega) (by rw [HlX.out]; omega)).mono ?_
        rintro e w11 ⟨rfl, n11, hw11⟩
        rw [decide_eq_true (show l.take X = l.take X from rfl)]
        have b11 := hide (b10.out.trans ((drewsB w10 n11).mono b10.out.size))
        have i3 := hide (i2.out.below (drewsB w10 n11))
        have j3 := hide (j2.out.below (drewsB w10 n11))
        rw [← hw11] at b11 i3 j3
        clear hw11 i1 i2 j1 j2 b10
        go_wp2_with fail
        refine (sameLines3_calls _ _ (l.take Y) (l.take Y) _ i3.out j3.out (by rw [HlY.out]; omega) (by rw [HlY.out]; omega)).mono ?_
        rintro e w12 ⟨rfl, n12, hw12⟩
        rw [decide_eq_true (show l.take Y = l.take Y from rfl)]
        have b12 := hide (b11.out.trans ((drewsB w11 n12).mono b11.out.size))
        rw [← hw12] at b12
        clear hw12 i3 j3 b11
        go_wp2
        go_ret
        exact ⟨rfl, b12.out⟩
  · have hlI : (20 : Int) < (l.length : Int) := by omega
    go_wp2
    go_ret
    exact ⟨rfl, b1⟩

end Go.Proofs.Ytheaifgoleklpaa
