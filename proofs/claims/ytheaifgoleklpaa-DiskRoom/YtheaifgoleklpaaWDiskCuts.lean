/- DiskCuts: the walk. Own work; no statement. -/
import Derived.Test.YtheaifgoleklpaaD7
set_option linter.unusedSimpArgs false
set_option linter.unusedVariables false
namespace Go.Proofs.Ytheaifgoleklpaa
open Go.RowKit Go.Shelf

theorem row_touch {W W' : World} {S : Nat → Prop} {B : Nat} {e : TypeId} {s : Nat} {v : Value} {n : Nat} {xs : List Value} (h : W.ownsRow B e s v n xs) (t : Touch S W W') (hS : ∀ k, B ≤ k → ¬ S k) : W'.ownsRow B e s v n xs :=
  ownsRow_of_heap h fun k hk => t.block k (h.lt k hk).2 (hS k (h.lt k hk).1)
theorem row_new {W W' : World} {B : Nat} {e : TypeId} {s : Nat} {v : Value} {n : Nat} {xs : List Value} (h : W.ownsRow B e s v n xs) (t : Below W.heap.size W W') : W'.ownsRow B e s v n xs :=
  ownsRow_of_heap h fun k hk => t.block k (h.lt k hk).2
theorem IsStrs.front {w : World} {a : Option Addr} {n cap : Nat} {l : List ByteArray} (h : IsStrs w (.slice a n cap) l) (m : Nat) (hm : m ≤ l.length) : IsStrs w (.slice a m cap) (l.take m) := by
  obtain ⟨a', cap', e, hcap, h⟩ := h
  simp only [Value.slice.injEq] at e
  obtain ⟨rfl, rfl, rfl⟩ := e
  refine ⟨a, cap, by simp [hm], by simp; omega, fun t ht => ?_⟩
  obtain ⟨b, o, e, hc⟩ := h t (by simp at ht; omega)
  exact ⟨b, o, e, by simpa using hc⟩

set_option maxRecDepth 100000 in
set_option maxHeartbeats 8000000 in
theorem diskCuts_main (v : Value) (l : List ByteArray) (n : Int) (w : World) (hv : IsStrs w v l) (hsz : ∀ s ∈ l, s.size ≤ maxLen) (hn : (Lit.int .i64 n).wf = true) :
    Calls Try.prog 6 #[v, .int .i64 n] w fun e w' => e = .returned (.bool true) ∧ Below w.heap.size w w' := by
  obtain ⟨a, cap, rfl, -, hcell⟩ := id hv
  have Hv := hide hv
  have Hsz := hide hsz
  clear hv hsz hcell
  go_enter Try.func6, Try.ntmps6
  go_wp2_with fail
  refine (diskKnown_calls w).mono ?_
  rintro e w1 ⟨rfl, b1⟩
  by_cases hl : l.length ≤ 20
  · have hlI : ¬ (20 : Int) < (l.length : Int) := by omega
    go_wp2_with fail
    refine (diskNew_calls 100000 w1 (by decide) (by decide)).mono ?_
    rintro e w2 ⟨rfl, d2, t2⟩
    have b2 := b1.trans (t2.mono b1.size)
    have hp := b1.size
    obtain ⟨p, hpe⟩ : ∃ p, w1.heap.size = p := ⟨_, rfl⟩
    rw [hpe] at d2 hp ⊢
    clear t2 hpe b1
    go_wp2_with fail
    go_loopw [7, 8] (fun c i wr => ∃ (k : Nat) (g : Option Nat) (ls : List ByteArray), c = .int .i64 (ls.length : Int) ∧ i = .int .i64 (k : Int) ∧ k ≤ l.length ∧ ls.length ≤ k ∧ IsDisk wr p p g ⟨100000, ls, 0⟩ ∧ Below w.heap.size w wr) (fun _ i _ => l.length - (intOf i).toNat)
    case atStart => exact ⟨0, none, [], rfl, rfl, Nat.zero_le _, Nat.le_refl _, d2, b2⟩
    case round =>
      clear d2 b2
      obtain ⟨k, g, ls, rfl, rfl, hk, hlk, hd, hB⟩ := hrel
      have Hd := hide hd
      have HB := hide hB
      clear hd hB
      by_cases hlt : k < l.length
      · have hltI : (k : Int) < (l.length : Int) := by omega
        obtain ⟨a', cap', e, -, hcell⟩ := Hv.out.below HB.out
        simp only [Value.slice.injEq] at e
        obtain ⟨rfl, -, rfl⟩ := e
        obtain ⟨b, o, rfl, hc⟩ := hcell k hlt
        have hs := Hsz.out l[k] (List.getElem_mem hlt)
        unfold maxLen at hs
        obtain ⟨s, hse⟩ : ∃ s, l[k] = s := ⟨_, rfl⟩
        rw [hse] at hc hs
        clear hcell hse
        by_cases h200 : 200 < s.size
        · have h200I : (200 : Int) < (s.size : Int) := by omega
          go_wp2
          go_ret
          exact ⟨rfl, HB.out⟩
        · have h200I : ¬ (200 : Int) < (s.size : Int) := by omega
          have hpw : p ≤ wr.heap.size := by have := Hd.out.lt; omega
          by_cases hwe : writeE ⟨100000, ls, 0⟩ s = 0
          · go_wp2_with fail
            refine (diskWrite_to _ _ _ _ s 0 ⟨100000, ls ++ [s], 0⟩ hwe (by unfold writeD; rw [if_pos hwe]) _ Hd.out hpw (by omega)).mono ?_
            rintro e w3 ⟨rfl, g3, d3, t3, -⟩
            have b3 := HB.out.trans ((Hd.out.below hpw t3).mono (by omega))
            have hle : ((ls ++ [s]).length : Int) = (ls.length : Int) + 1 := by simp
            have Hle := hide hle
            clear hle
            go_wp2
            exact ⟨⟨k + 1, g3, ls ++ [s], by rw [Hle.out], by go_num, by omega, by simp; omega, d3, b3⟩, by simp [intOf]; omega⟩
          · have hwd : writeD ⟨100000, ls, 0⟩ s = ⟨100000, ls, 0⟩ := by unfold writeD; rw [if_neg hwe]
            obtain ⟨c, hce⟩ : ∃ c, writeE ⟨100000, ls, 0⟩ s = c := ⟨_, rfl⟩
            rw [hce] at hwe
            have hwb : (c == 0) = false := by simp [hwe]
            have Hce := hide hce
            clear hce hwe
            go_wp2_with fail
            refine (diskWrite_to _ _ _ _ s c _ Hce.out hwd _ Hd.out hpw (by omega)).mono ?_
            rintro e w3 ⟨rfl, g3, d3, t3, -⟩
            have b3 := HB.out.trans ((Hd.out.below hpw t3).mono (by omega))
            go_wp2
            exact ⟨⟨k + 1, g3, ls, rfl, by go_num, by omega, by omega, d3, b3⟩, by simp [intOf]; omega⟩
      · go_wp2_with fail
        have hll : ls.length ≤ 20 := by omega
        refine (diskLines_calls _ _ _ _ _ Hd.out).mono ?_
        rintro e w3 ⟨bs, rfl, -, hseq, t3⟩
        dsimp only at hseq
        have d3 := Hd.out.new t3
        have b3 := HB.out.trans (t3.mono HB.out.size)
        go_wp2_with fail
        refine (lawLines3_calls _ 30 _ _ hseq (by omega) (by decide)).mono ?_
        rintro e w4 ⟨vl, rfl, hvl, t4⟩
        have d4 := hide (d3.new t4)
        have b4 := hide (b3.trans (t4.mono b3.size))
        have hq := hide (show ∀ j, w3.heap.size ≤ j → ¬ onDisk p g j from fun j hj h => by have := (d3.on h).2; omega)
        obtain ⟨av, cv, rfl⟩ := ownsRow_slice hvl
        have r4 := hide hvl
        have hpp : p ≤ w4.heap.size := by have := d4.out.lt; omega
        have hwp : w.heap.size ≤ w4.heap.size := b4.out.size
        clear hvl t4 hseq t3 d3 b3 Hd HB
        by_cases h0 : n < 0
        · have hb : n < 0 ∨ (ls.length : Int) < n := .inl h0
          have e1 : cutE ⟨100000, ls, 0⟩ n = 1 := by unfold cutE; rw [if_pos hb]
          have e2 : cutD ⟨100000, ls, 0⟩ n = ⟨100000, ls, 0⟩ := by unfold cutD; rw [e1, if_neg (by decide)]
          have e3 : cutE ⟨100000, ls, ls.length⟩ n = 1 := by unfold cutE; rw [if_pos hb]
          have e4 : cutD ⟨100000, ls, ls.length⟩ n = ⟨100000, ls, ls.length⟩ := by unfold cutD; rw [e3, if_neg (by decide)]
          have hlb : ((ls.length : Int) != (ls.length : Int)) = false := by simp
          have E1 := hide e1
          have E2 := hide e2
          have E3 := hide e3
          have E4 := hide e4
          clear e1 e2 e3 e4
          go_wp2_with fail
          refine (diskCut_to _ _ _ _ n 1 _ E1.out E2.out _ d4.out).mono ?_
          rintro e w5 ⟨rfl, d5, t5⟩
          have b5 := b4.out.trans ((d4.out.below hpp t5).mono (by omega))
          go_wp2_with fail
          refine (diskSync_calls _ _ _ _ _ d5).mono ?_
          rintro e w6 ⟨rfl, d6, t6⟩
          have b6 := b5.trans ((d5.below (by have := t5.size; omega) t6).mono (by omega))
          dsimp only at d6
          go_wp2_with fail
          refine (diskCut_to _ _ _ _ n 1 _ E3.out E4.out _ d6).mono ?_
          rintro e w7 ⟨rfl, d7, t7⟩
          have b7 := b6.trans ((d6.below (by have := t5.size; have := t6.size; omega) t7).mono (by omega))
          go_wp2_with fail
          refine (diskLen_calls _ _ _ _ _ d7).mono ?_
          rintro e w8 ⟨rfl, hw8⟩
          subst hw8
          go_wp2
          go_ret
          exact ⟨rfl, b7⟩
        · by_cases h1 : (ls.length : Int) < n
          · have hb : n < 0 ∨ (ls.length : Int) < n := .inr h1
            have e1 : cutE ⟨100000, ls, 0⟩ n = 1 := by unfold cutE; rw [if_pos hb]
            have e2 : cutD ⟨100000, ls, 0⟩ n = ⟨100000, ls, 0⟩ := by unfold cutD; rw [e1, if_neg (by decide)]
            have e3 : cutE ⟨100000, ls, ls.length⟩ n = 1 := by unfold cutE; rw [if_pos hb]
            have e4 : cutD ⟨100000, ls, ls.length⟩ n = ⟨100000, ls, ls.length⟩ := by unfold cutD; rw [e3, if_neg (by decide)]
            have hlb : ((ls.length : Int) != (ls.length : Int)) = false := by simp
            have E1 := hide e1
            have E2 := hide e2
            have E3 := hide e3
            have E4 := hide e4
            clear e1 e2 e3 e4
            go_wp2_with fail
            refine (diskCut_to _ _ _ _ n 1 _ E1.out E2.out _ d4.out).mono ?_
            rintro e w5 ⟨rfl, d5, t5⟩
            have b5 := b4.out.trans ((d4.out.below hpp t5).mono (by omega))
            go_wp2_with fail
            refine (diskSync_calls _ _ _ _ _ d5).mono ?_
            rintro e w6 ⟨rfl, d6, t6⟩
            have b6 := b5.trans ((d5.below (by have := t5.size; omega) t6).mono (by omega))
            dsimp only at d6
            go_wp2_with fail
            refine (diskCut_to _ _ _ _ n 1 _ E3.out E4.out _ d6).mono ?_
            rintro e w7 ⟨rfl, d7, t7⟩
            have b7 := b6.trans ((d6.below (by have := t5.size; have := t6.size; omega) t7).mono (by omega))
            go_wp2_with fail
            refine (diskLen_calls _ _ _ _ _ d7).mono ?_
            rintro e w8 ⟨rfl, hw8⟩
            subst hw8
            go_wp2
            go_ret
            exact ⟨rfl, b7⟩
          · obtain ⟨m, rfl⟩ := Int.eq_ofNat_of_zero_le (show 0 ≤ n by omega)
            by_cases hc0 : 0 < ls.length
            · have hcI : (0 : Int) < (ls.length : Int) := by omega
              have e1 : cutE ⟨100000, ls, 0⟩ (m : Int) = 12 := by unfold cutE; rw [if_neg (by dsimp only; omega), if_pos (by dsimp only; omega)]
              have e2 : cutD ⟨100000, ls, 0⟩ (m : Int) = ⟨100000, ls, 0⟩ := by
                unfold cutD
                rw [e1]
                rw [if_neg (by decide)]
              have e3 : cutE ⟨100000, ls, ls.length⟩ (m : Int) = 0 := by unfold cutE; rw [if_neg (by dsimp only; omega), if_neg (by dsimp only; omega)]
              have e4 : cutD ⟨100000, ls, ls.length⟩ (m : Int) = ⟨100000, ls.take m, m⟩ := by unfold cutD; rw [e3, if_pos rfl, Int.toNat_natCast]
              have hlb : ((ls.length : Int) != (ls.length : Int)) = false := by simp
              have htl : (ls.take m).length = m := by simp; omega
              have e5 : crashD ⟨100000, ls.take m, m⟩ 0 = ⟨100000, ls.take m, m⟩ := by
                have : wholeN ⟨100000, ls.take m, m⟩ 0 = m := by unfold wholeN; dsimp only; rw [List.drop_eq_nil_of_le (by omega)]; rfl
                unfold crashD
                rw [this]
                dsimp only
                rw [List.take_of_length_le (by omega)]
              have E1 := hide e1
              have E2 := hide e2
              have E3 := hide e3
              have E4 := hide e4
              have E5 := hide e5
              have HT := hide htl
              clear e1 e2 e3 e4 e5 htl
              go_wp2_with fail
              refine (diskCut_to _ _ _ _ (m : Int) 12 _ E1.out E2.out _ d4.out).mono ?_
              rintro e w5 ⟨rfl, d5, t5⟩
              have b5 := b4.out.trans ((d4.out.below hpp t5).mono (by omega))
              have r5 := row_touch r4.out t5 hq.out
              go_wp2_with fail
              refine (diskSync_calls _ _ _ _ _ d5).mono ?_
              rintro e w6 ⟨rfl, d6, t6⟩
              have b6 := b5.trans ((d5.below (by have := t5.size; omega) t6).mono (by omega))
              have r6 := row_touch r5 t6 hq.out
              have s6 : p ≤ w6.heap.size := by have := t5.size; have := t6.size; omega
              dsimp only at d6
              clear d5 b5 r5 t5 t6 d4 b4 r4 hpp hwp
              go_wp2_with fail
              refine (diskCut_to _ _ _ _ (m : Int) 0 _ E3.out E4.out _ d6).mono ?_
              rintro e w7 ⟨rfl, d7, t7⟩
              have b7 := b6.trans ((d6.below s6 t7).mono (by omega))
              have r7 := row_touch r6 t7 hq.out
              have s7 : p ≤ w7.heap.size := by have := t7.size; omega
              clear d6 b6 r6 t7 s6
              go_wp2_with fail
              refine (diskLines_calls _ _ _ _ _ d7).mono ?_
              rintro e w8 ⟨bs8, rfl, -, hseq8, t8⟩
              dsimp only at hseq8
              have d8 := d7.new t8
              have b8 := b7.trans (t8.mono b7.size)
              have r8 := row_new r7 t8
              have s8 : p ≤ w8.heap.size := by have := t8.size; omega
              clear d7 b7 r7 t8 s7
              go_wp2_with fail
              refine (lawLines3_calls _ 30 _ _ hseq8 (by rw [HT.out]; omega) (by decide)).mono ?_
              rintro e w9 ⟨vx, rfl, hvx, t9⟩
              have d9 := d8.new t9
              have b9 := b8.trans (t9.mono b8.size)
              have r9 := row_new r8 t9
              have s9 : p ≤ w9.heap.size := by have := t9.size; omega
              have hq9 : ∀ j, w8.heap.size ≤ j → ¬ onDisk p g j := fun j hj h => by have := (d8.on h).2; omega
              clear d8 b8 r8 t9 s8 hseq8
              obtain ⟨ax, cx, rfl⟩ := ownsRow_slice hvx
              rw [HT.out] at hvx ⊢
              go_wp2_with fail
              refine (diskCrash_to _ _ _ _ 0 _ E5.out _ d9 (by decide) (by decide)).mono ?_
              rintro e w10 ⟨rfl, d10, t10⟩
              have b10 := b9.trans ((d9.below s9 t10).mono (by omega))
              have r10 := row_touch r9 t10 hq.out
              have x10 := row_touch hvx t10 hq9
              have s10 : p ≤ w10.heap.size := by have := t10.size; omega
              clear d9 b9 r9 hvx t10 s9 hq9
              go_wp2_with fail
              refine (diskLines_calls _ _ _ _ _ d10).mono ?_
              rintro e w11 ⟨bs11, rfl, -, hseq11, t11⟩
              dsimp only at hseq11
              have b11 := b10.trans (t11.mono b10.size)
              have r11 := row_new r10 t11
              have x11 := row_new x10 t11
              clear d10 b10 r10 x10 t11 s10
              go_wp2_with fail
              refine (lawLines3_calls _ 30 _ _ hseq11 (by rw [HT.out]; omega) (by decide)).mono ?_
              rintro e w12 ⟨vy, rfl, y12, t12⟩
              have b12 := hide (b11.trans (t12.mono b11.size))
              have i1 := hide (IsStrs.of_row (row_new r11 t12))
              have i2 := hide (IsStrs.of_row (l := ls.take m) (by rw [HT.out]; exact row_new x11 t12))
              have i3 := hide (IsStrs.of_row y12)
              obtain ⟨ay, cy, rfl⟩ := ownsRow_slice y12
              rw [HT.out] at i3 ⊢
              obtain ⟨_, cv', hcv, hcv'⟩ : ∃ a' c', Value.slice av ls.length cv = .slice a' ls.length c' ∧ ls.length ≤ cv := by
                rcases r11.2 with ⟨h0, h1⟩ | ⟨g', cap', cur, h0, _, _, h1, _⟩
                · exact ⟨_, _, rfl, by simp only [Value.slice.injEq] at h0; omega⟩
                · exact ⟨_, _, rfl, by simp only [Value.slice.injEq] at h0; omega⟩
              have hmc : (m : Int) ≤ (cv : Int) := by omega
              clear b11 r11 x11 y12 t12 hseq11 hcv hcv'
              go_wp2_with fail
              refine (sameLines3_calls _ _ (ls.take m) (ls.take m) _ i2.out (i1.out.front m (by omega)) (by rw [HT.out]; omega) (by rw [HT.out]; omega)).mono ?_
              rintro e w13 ⟨rfl, n13, hw13⟩
              rw [decide_eq_true (show ls.take m = ls.take m from rfl)]
              have b13 := hide (b12.out.trans ((drewsB w12 n13).mono b12.out.size))
              have j2 := hide (i2.out.below (drewsB w12 n13))
              have j3 := hide (i3.out.below (drewsB w12 n13))
              rw [← hw13] at b13 j2 j3
              clear hw13 i1 i2 i3 b12
              go_wp2_with fail
              refine (sameLines3_calls _ _ (ls.take m) (ls.take m) _ j3.out j2.out (by rw [HT.out]; omega) (by rw [HT.out]; omega)).mono ?_
              rintro e w14 ⟨rfl, n14, hw14⟩
              rw [decide_eq_true (show ls.take m = ls.take m from rfl)]
              have b14 := hide (b13.out.trans ((drewsB w13 n14).mono b13.out.size))
              rw [← hw14] at b14
              clear hw14 j2 j3 b13
              go_wp2
              go_ret
              exact ⟨rfl, b14.out⟩
            · have hcI : ¬ (0 : Int) < (ls.length : Int) := by omega
              have e1 : cutE ⟨100000, ls, 0⟩ (m : Int) = 0 := by unfold cutE; rw [if_neg (by dsimp only; omega), if_neg (by dsimp only; omega)]
              have e2 : cutD ⟨100000, ls, 0⟩ (m : Int) = ⟨100000, ls, 0⟩ := by
                unfold cutD
                rw [e1]
                rw [if_pos rfl, Int.toNat_natCast, show m = 0 by omega, show ls = [] from List.eq_nil_of_length_eq_zero (by omega)]; rfl
              have e3 : cutE ⟨100000, ls, ls.length⟩ (m : Int) = 0 := by unfold cutE; rw [if_neg (by dsimp only; omega), if_neg (by dsimp only; omega)]
              have e4 : cutD ⟨100000, ls, ls.length⟩ (m : Int) = ⟨100000, ls.take m, m⟩ := by unfold cutD; rw [e3, if_pos rfl, Int.toNat_natCast]
              have hlb : ((ls.length : Int) != (ls.length : Int)) = false := by simp
              have htl : (ls.take m).length = m := by simp; omega
              have e5 : crashD ⟨100000, ls.take m, m⟩ 0 = ⟨100000, ls.take m, m⟩ := by
                have : wholeN ⟨100000, ls.take m, m⟩ 0 = m := by unfold wholeN; dsimp only; rw [List.drop_eq_nil_of_le (by omega)]; rfl
                unfold crashD
                rw [this]
                dsimp only
                rw [List.take_of_length_le (by omega)]
              have E1 := hide e1
              have E2 := hide e2
              have E3 := hide e3
              have E4 := hide e4
              have E5 := hide e5
              have HT := hide htl
              clear e1 e2 e3 e4 e5 htl
              go_wp2_with fail
              refine (diskCut_to _ _ _ _ (m : Int) 0 _ E1.out E2.out _ d4.out).mono ?_
              rintro e w5 ⟨rfl, d5, t5⟩
              have b5 := b4.out.trans ((d4.out.below hpp t5).mono (by omega))
              have r5 := row_touch r4.out t5 hq.out
              go_wp2_with fail
              refine (diskSync_calls _ _ _ _ _ d5).mono ?_
              rintro e w6 ⟨rfl, d6, t6⟩
              have b6 := b5.trans ((d5.below (by have := t5.size; omega) t6).mono (by omega))
              have r6 := row_touch r5 t6 hq.out
              have s6 : p ≤ w6.heap.size := by have := t5.size; have := t6.size; omega
              dsimp only at d6
              clear d5 b5 r5 t5 t6 d4 b4 r4 hpp hwp
              go_wp2_with fail
              refine (diskCut_to _ _ _ _ (m : Int) 0 _ E3.out E4.out _ d6).mono ?_
              rintro e w7 ⟨rfl, d7, t7⟩
              have b7 := b6.trans ((d6.below s6 t7).mono (by omega))
              have r7 := row_touch r6 t7 hq.out
              have s7 : p ≤ w7.heap.size := by have := t7.size; omega
              clear d6 b6 r6 t7 s6
              go_wp2_with fail
              refine (diskLines_calls _ _ _ _ _ d7).mono ?_
              rintro e w8 ⟨bs8, rfl, -, hseq8, t8⟩
              dsimp only at hseq8
              have d8 := d7.new t8
              have b8 := b7.trans (t8.mono b7.size)
              have r8 := row_new r7 t8
              have s8 : p ≤ w8.heap.size := by have := t8.size; omega
              clear d7 b7 r7 t8 s7
              go_wp2_with fail
              refine (lawLines3_calls _ 30 _ _ hseq8 (by rw [HT.out]; omega) (by decide)).mono ?_
              rintro e w9 ⟨vx, rfl, hvx, t9⟩
              have d9 := d8.new t9
              have b9 := b8.trans (t9.mono b8.size)
              have r9 := row_new r8 t9
              have s9 : p ≤ w9.heap.size := by have := t9.size; omega
              have hq9 : ∀ j, w8.heap.size ≤ j → ¬ onDisk p g j := fun j hj h => by have := (d8.on h).2; omega
              clear d8 b8 r8 t9 s8 hseq8
              obtain ⟨ax, cx, rfl⟩ := ownsRow_slice hvx
              rw [HT.out] at hvx ⊢
              go_wp2_with fail
              refine (diskCrash_to _ _ _ _ 0 _ E5.out _ d9 (by decide) (by decide)).mono ?_
              rintro e w10 ⟨rfl, d10, t10⟩
              have b10 := b9.trans ((d9.below s9 t10).mono (by omega))
              have r10 := row_touch r9 t10 hq.out
              have x10 := row_touch hvx t10 hq9
              have s10 : p ≤ w10.heap.size := by have := t10.size; omega
              clear d9 b9 r9 hvx t10 s9 hq9
              go_wp2_with fail
              refine (diskLines_calls _ _ _ _ _ d10).mono ?_
              rintro e w11 ⟨bs11, rfl, -, hseq11, t11⟩
              dsimp only at hseq11
              have b11 := b10.trans (t11.mono b10.size)
              have r11 := row_new r10 t11
              have x11 := row_new x10 t11
              clear d10 b10 r10 x10 t11 s10
              go_wp2_with fail
              refine (lawLines3_calls _ 30 _ _ hseq11 (by rw [HT.out]; omega) (by decide)).mono ?_
              rintro e w12 ⟨vy, rfl, y12, t12⟩
              have b12 := hide (b11.trans (t12.mono b11.size))
              have i1 := hide (IsStrs.of_row (row_new r11 t12))
              have i2 := hide (IsStrs.of_row (l := ls.take m) (by rw [HT.out]; exact row_new x11 t12))
              have i3 := hide (IsStrs.of_row y12)
              obtain ⟨ay, cy, rfl⟩ := ownsRow_slice y12
              rw [HT.out] at i3 ⊢
              obtain ⟨_, cv', hcv, hcv'⟩ : ∃ a' c', Value.slice av ls.length cv = .slice a' ls.length c' ∧ ls.length ≤ cv := by
                rcases r11.2 with ⟨h0, h1⟩ | ⟨g', cap', cur, h0, _, _, h1, _⟩
                · exact ⟨_, _, rfl, by simp only [Value.slice.injEq] at h0; omega⟩
                · exact ⟨_, _, rfl, by simp only [Value.slice.injEq] at h0; omega⟩
              have hmc : (m : Int) ≤ (cv : Int) := by omega
              clear b11 r11 x11 y12 t12 hseq11 hcv hcv'
              go_wp2_with fail
              refine (sameLines3_calls _ _ (ls.take m) (ls.take m) _ i2.out (i1.out.front m (by omega)) (by rw [HT.out]; omega) (by rw [HT.out]; omega)).mono ?_
              rintro e w13 ⟨rfl, n13, hw13⟩
              rw [decide_eq_true (show ls.take m = ls.take m from rfl)]
              have b13 := hide (b12.out.trans ((drewsB w12 n13).mono b12.out.size))
              have j2 := hide (i2.out.below (drewsB w12 n13))
              have j3 := hide (i3.out.below (drewsB w12 n13))
              rw [← hw13] at b13 j2 j3
              clear hw13 i1 i2 i3 b12
              go_wp2_with fail
              refine (sameLines3_calls _ _ (ls.take m) (ls.take m) _ j3.out j2.out (by rw [HT.out]; omega) (by rw [HT.out]; omega)).mono ?_
              rintro e w14 ⟨rfl, n14, hw14⟩
              rw [decide_eq_true (show ls.take m = ls.take m from rfl)]
              have b14 := hide (b13.out.trans ((drewsB w13 n14).mono b13.out.size))
              rw [← hw14] at b14
              clear hw14 j2 j3 b13
              go_wp2
              go_ret
              exact ⟨rfl, b14.out⟩
  · have hlI : (20 : Int) < (l.length : Int) := by omega
    go_wp2
    go_ret
    exact ⟨rfl, b1⟩

end Go.Proofs.Ytheaifgoleklpaa
