/- DiskPlays: the walk. Own work; no statement. -/
import Derived.Test.YtheaifgoleklpaaRD3
import Derived.Test.YtheaifgoleklpaaFrameA
set_option linter.unusedSimpArgs false
set_option linter.unusedVariables false
namespace Go.Proofs.Ytheaifgoleklpaa
open Go.RowKit Go.Shelf

theorem IsRD.lower {w : World} {B B' p : Nat} {g : Option Nat} {D : DiskD} (h : IsRD w B p g D) (hB : B' ≤ B) : IsRD w B' p g D := by
  obtain ⟨v, hv, hp, hr⟩ := h.val
  exact ⟨h.ok, Nat.le_trans hB h.low, v, hv, hp, ownsRow_low hr hB⟩

/-- The disk goes on apart from the reference's. -/
theorem Apart.goes' {w : World} {B p p' : Nat} {g g1 g' : Option Nat} {D : DiskD} (h : Apart p g p' g') (hd : IsRD w B p' g' D) (hg : ∀ k, g1 = some k → g = some k ∨ w.heap.size ≤ k) : Apart p g1 p' g' := fun k h1 h2 => by
  rcases h1 with rfl | e
  · exact h k (.inl rfl) h2
  · rcases hg k e with e' | e'
    · exact h k (.inr e') h2
    · have := (hd.on h2).2
      omega

set_option maxRecDepth 100000 in
set_option maxHeartbeats 8000000 in
theorem diskPlays_main (room : Int) (v : Value) (l : List ActD) (w : World) (hr : (Lit.int .i64 room).wf = true) (hv : IsActs w v l) (hwl : ∀ x ∈ l, ActWf x) :
    Calls Try.prog 3 #[.int .i64 room, v] w fun e w' => e = .returned (.bool true) ∧ Below w.heap.size w w' := by
  have Hv := hide hv
  have Hwl := hide hwl
  obtain ⟨a, cap, rfl, -⟩ := hv
  clear hwl hr
  go_enter Try.func3, Try.ntmps3
  go_wp2_with fail
  refine (diskKnown_calls w).mono ?_
  rintro e w0 ⟨rfl, b1⟩
  go_wp2_with fail
  refine (few3_calls _ l w0 (Hv.out.below b1) Hwl.out).mono ?_
  rintro e w1 ⟨⟨fb, rfl, hfew⟩, hw1⟩
  subst hw1
  cases fb with
  | false =>
    go_wp2
    go_ret
    exact ⟨rfl, b1⟩
  | true =>
    obtain ⟨hl60, hs200⟩ := hfew rfl
    have Hs200 := hide hs200
    clear hfew hs200
    by_cases hroom : 1 ≤ room ∧ room ≤ 1048576
    · go_wp2_with fail
      refine (diskNew_calls room w1 hroom.1 hroom.2).mono ?_
      rintro e w2 ⟨rfl, d2, t2⟩
      have b2 := b1.trans (t2.mono b1.size)
      have d2' := d2.lower b1.size
      obtain ⟨p, hpe⟩ : ∃ p, w1.heap.size = p := ⟨_, rfl⟩
      rw [hpe] at d2' ⊢
      clear t2 hpe d2
      go_wp2_with fail
      refine (refDiskNew_calls room w2 hroom.1 hroom.2).mono ?_
      rintro e w3 ⟨rfl, r3, t3⟩
      have b3 := b2.trans (t3.mono b2.size)
      have d3 := d2'.new t3
      have ap3 : Apart p none w2.heap.size none := fun k h1 h2 => by
        have e1 := (d2'.on h1).2
        have e2 := (r3.on h2).1
        omega
      have r3' := r3.lower b2.size
      obtain ⟨q, hqe⟩ : ∃ q, w2.heap.size = q := ⟨_, rfl⟩
      rw [hqe] at r3' ap3 ⊢
      clear t3 hqe r3 d2' b2 b1
      go_wp2_with fail
      go_loopw [5, 9] (fun pd i wr => ∃ (k p : Nat) (g gr : Option Nat) (D : DiskD), pd = .pointer (some ⟨p, 0, none⟩) ∧ i = .int .i64 (k : Int) ∧ k ≤ l.length ∧ D.lines.length ≤ k ∧ IsDisk wr w.heap.size p g D ∧ IsRD wr w.heap.size q gr D ∧ Apart p g q gr ∧ Below w.heap.size w wr) (fun _ i _ => l.length - (intOf i).toNat)
      case atStart => exact ⟨0, p, none, none, ⟨room, [], 0⟩, rfl, rfl, Nat.zero_le _, Nat.le_refl _, d3, r3', ap3, b3⟩
      case round =>
        clear d3 r3' ap3 b3
        obtain ⟨k, p, g, gr, D, rfl, rfl, hk, hDl, hd, hrd, hap, hB⟩ := hrel
        have Hd := hide hd
        have Hr := hide hrd
        have Hap := hide hap
        have HB := hide hB
        clear hd hrd hap hB
        by_cases hlt : k < l.length
        · have hltI : (k : Int) < (l.length : Int) := by omega
          obtain ⟨a', cap', e, hcell⟩ := Hv.out.below HB.out
          simp only [Value.slice.injEq] at e
          obtain ⟨rfl, -, rfl⟩ := e
          obtain ⟨b, o, rfl, c0, c1, c2⟩ := hcell k hlt
          have hwf := Hwl.out l[k] (List.getElem_mem hlt)
          have hs2 := Hs200.out l[k] (List.getElem_mem hlt)
          obtain ⟨x, hx⟩ : ∃ x, l[k] = x := ⟨_, rfl⟩
          rw [hx] at c0 c1 c2 hwf hs2
          obtain ⟨op, n, s⟩ := x
          dsimp only at c0 c1 c2 hs2
          have hn0 : -9223372036854775808 ≤ n ∧ n ≤ 9223372036854775807 := by
            have h' : (decide (IntKind.i64.min ≤ n) && decide (n ≤ IntKind.i64.max)) = true := hwf.n
            simp only [Bool.and_eq_true, decide_eq_true_eq] at h'
            exact h'
          clear hx hcell hwf
          by_cases o1 : op = 1
          · subst o1
            go_wp2_with fail
            have bx0 : (wr.alloc (.cells #[.int .i64 1, .int .i64 n, .string s] 33)).heap[wr.heap.size]? = some (.cells #[.int .i64 1, .int .i64 n, .string s] 33 (0, 0)) := World.alloc_heap_new wr _
            have al := (Below.refl _ wr).alloc (Nat.le_refl _) (.cells #[.int .i64 1, .int .i64 n, .string s] 33)
            have d0 := hide (Hd.out.new al)
            have r0 := hide (Hr.out.new al)
            have b0 := hide (HB.out.trans (al.mono HB.out.size))
            have hbx : ∀ k, onDisk p g k → k ≠ wr.heap.size := fun k h e => by have := (Hd.out.on h).2; omega
            have hbr : ∀ k, onDisk q gr k → k ≠ wr.heap.size := fun k h e => by have := (Hr.out.on h).2; omega
            obtain ⟨bx, hbxe⟩ : ∃ bx, wr.heap.size = bx := ⟨_, rfl⟩
            have hbw : w.heap.size ≤ bx := by rw [← hbxe]; exact HB.out.size
            rw [hbxe] at bx0 hbx hbr ⊢
            obtain ⟨W0, hW0⟩ : ∃ W0, wr.alloc (.cells #[.int .i64 1, .int .i64 n, .string s] 33) = W0 := ⟨_, rfl⟩
            rw [hW0] at bx0 d0 r0 b0 ⊢
            have Hbx := hide hbx
            have Hbr := hide hbr
            clear hW0 hbxe hbx hbr al c0 c1 c2 Hd Hr HB
            obtain ⟨W1, hW1⟩ : ∃ W1, W0.drew = W1 := ⟨_, rfl⟩
            have hh : W1.heap = W0.heap := by rw [← hW1]; rfl
            have d1 := hide (show IsDisk W1 w.heap.size p g D from d0.out.keep fun _ _ => by rw [hh])
            have r1 := hide (show IsRD W1 w.heap.size q gr D from r0.out.keep fun _ _ => by rw [hh])
            have b1 : Hid (Below w.heap.size w W1) := by rw [← hW1]; exact b0.out.drew
            have bx1 : W1.heap[bx]? = _ := (by rw [hh] : W1.heap[bx]? = W0.heap[bx]?).trans bx0
            have s1 : w.heap.size ≤ W1.heap.size := b1.out.size
            refine region_headT 9 (fun W => W.cell? ⟨bx, 2, none⟩ = some (.string s)) (by kernel_rfl) (by decide) ?_
            rw [hW1]
            clear hW1 hh d0 r0 b0 bx0
            have z1 : W1.cell? ⟨bx, 2, none⟩ = some (.string s) := by simpa using cellsAt bx1 2
            refine HeadT.take 0 (.pointer (some ⟨p, 0, none⟩)) rfl (by kernel_rfl) (.inl ⟨rfl, fun w2 s0 => by go_simp⟩) z1 ?_
            refine HeadT.take 1 (.pointer (some ⟨bx, 2, none⟩)) rfl (by kernel_rfl) (.inl ⟨rfl, fun w2 s0 => by go_simp⟩) z1 ?_
            refine HeadT.take 2 (.string s) rfl (by kernel_rfl) (.inl ⟨rfl, fun w2 s0 => by go_simp⟩) z1 ?_
            refine HeadT.take 4 (.pointer (some ⟨q, 0, none⟩)) rfl (by kernel_rfl) (.inl ⟨rfl, fun w2 s0 => by go_simp⟩) z1 ?_
            refine HeadT.take 5 (.pointer (some ⟨bx, 2, none⟩)) rfl (by kernel_rfl) (.inl ⟨rfl, fun w2 s0 => by go_simp⟩) z1 ?_
            refine HeadT.take 6 (.string s) rfl (by kernel_rfl) (.inl ⟨rfl, fun w2 s0 => by go_simp⟩) z1 ?_
            refine HeadT.only 3 (by kernel_rfl) ?_
            refine wpOp_call rfl rfl 12 #[.pointer (some ⟨p, 0, none⟩), .string s] (by go_simp) (diskWrite_calls _ p g D s W1 d1.out s1 (by omega)) ?_
            rintro e w4 ⟨rfl, g4, d4, t4, n4⟩
            have r4 := r1.out.touch t4 Hap.out.symm
            have b4 := b1.out.trans ((d1.out.below s1 t4).mono (Nat.le_refl _))
            have bx4 := (t4.block bx (ltAt bx1) (fun h => Hbx.out bx h rfl)).trans bx1
            have z4 : w4.cell? ⟨bx, 2, none⟩ = some (.string s) := by simpa using cellsAt bx4 2
            refine ⟨_, rfl, z4, ?_⟩
            refine HeadT.only 7 (by kernel_rfl) ?_
            refine wpOp_call rfl rfl 13 #[.pointer (some ⟨q, 0, none⟩), .string s] (by go_simp) (refDiskWrite_calls _ q gr D s w4 r4 b4.size (by omega)) ?_
            rintro e w5 ⟨rfl, g5, r5, t5, n5⟩
            have ap4 : Apart p g4 q gr := Hap.out.goes' r1.out n4
            have d5 := d4.touch t5 ap4
            have b5 := b4.trans ((r4.below b4.size t5).mono (Nat.le_refl _))
            have bx5 := (t5.block bx (ltAt bx4) (fun h => Hbr.out bx h rfl)).trans bx4
            have z5 : w5.cell? ⟨bx, 2, none⟩ = some (.string s) := by simpa using cellsAt bx5 2
            have ap5 : Apart p g4 q g5 := (ap4.symm.goes d4 n5).symm
            refine ⟨_, rfl, z5, ?_⟩
            refine HeadT.take 8 (.bool false) rfl (by kernel_rfl) (.inl ⟨rfl, fun w2 s0 => by go_simp⟩) z5 ?_
            refine HeadT.tail rfl (by kernel_rfl) ?_
            simp only [List.drop_succ_cons, List.drop_zero]
            have HDl : Hid ((writeD D s).lines.length ≤ k + 1) := by
              show (writeD D s).lines.length ≤ k + 1
              unfold writeD
              split
              · simp; omega
              · omega
            obtain ⟨D', hD'⟩ : ∃ D', writeD D s = D' := ⟨_, rfl⟩
            rw [hD'] at d5 r5 HDl
            have DD := hide d5
            have RR := hide r5
            have BB := hide b5
            have AP := hide ap5
            clear hD' d5 r5 b5 ap5 z5 bx5 ap4 n5 t5 bx4 z4 b4 r4 n4 t4 d4 d1 r1 b1 bx1 z1 s1 Hap Hbx Hbr
            go_wp2_with fail
            simp only [noPanic]
            go_simp
            have hDl2 := HDl.out
            obtain ⟨N, hN⟩ : ∃ N, D'.lines.length = N := ⟨_, rfl⟩
            obtain ⟨M, hM⟩ : ∃ M, D'.lasts = M := ⟨_, rfl⟩
            obtain ⟨Y, hY⟩ : ∃ Y, bytesOf D'.lines = Y := ⟨_, rfl⟩
            have HN := hide hN
            have HM := hide hM
            have HY := hide hY
            have hNM : M ≤ N := by rw [← hM, ← hN]; exact DD.out.ok.lasts
            rw [hN] at hDl2
            clear hN hM hY
            go_wp2_with fail
            refine (diskLines_calls _ _ _ _ _ DD.out).mono ?_
            rintro e w7 ⟨bs, rfl, -, hseq, t7⟩
            have d7 := hide (DD.out.new t7)
            have r7 := hide (RR.out.new t7)
            have b7 := hide (BB.out.trans (t7.mono BB.out.size))
            clear DD RR BB t7
            go_wp2_with fail
            refine (lawLines3_calls _ 70 _ _ hseq (by rw [HN.out]; omega) (by decide)).mono ?_
            rintro e w8 ⟨va, rfl, ra, t8⟩
            have d8 := hide (d7.out.new t8)
            have r8 := hide (r7.out.new t8)
            have b8 := hide (b7.out.trans (t8.mono b7.out.size))
            obtain ⟨aa, ca, rfl⟩ := ownsRow_slice ra
            have i1 := hide (IsStrs.of_row ra)
            obtain ⟨ar, cr, rc0, rc1, rc2, -, -, rrow, -⟩ := r8.out.open
            have i2 := hide (IsStrs.of_row rrow)
            clear d7 r7 b7 t8 hseq ra rrow rc0
            rw [HN.out] at i1 i2 rc1 ⊢
            rw [HM.out] at rc2
            have q1 : Hid (∀ m, Calls Try.prog 23 #[.slice aa N ca, .slice ar N cr] (w8.drewN m) fun e w' => e = .returned (.bool true) ∧ ∃ n, w' = (w8.drewN m).drewN n) := fun m => by
              have := sameLines3_calls _ _ D'.lines D'.lines (w8.drewN m) (i1.out.below (drewsB _ _)) (i2.out.below (drewsB _ _)) (by rw [HN.out]; omega) (by rw [HN.out]; omega)
              rwa [decide_eq_true (show D'.lines = D'.lines from rfl)] at this
            have q2 : Hid (∀ m, Calls Try.prog 24 #[.pointer (some ⟨p, 0, none⟩)] (w8.drewN m) fun e w' => e = .returned (.int .i64 (N : Int)) ∧ w' = w8.drewN m) := fun m => diskLen_to _ _ _ _ _ (by rw [HN.out]) _ (d8.out.drews m)
            have q3 : Hid (∀ m, Calls Try.prog 25 #[.pointer (some ⟨p, 0, none⟩)] (w8.drewN m) fun e w' => e = .returned (.int .i64 ((N : Int) - (M : Int))) ∧ ∃ n, w' = (w8.drewN m).drewN n) := fun m => diskWaits_to _ _ _ _ _ (by rw [HN.out, HM.out]) _ (d8.out.drews m)
            have q4 : Hid (∀ m, Calls Try.prog 26 #[.pointer (some ⟨p, 0, none⟩)] (w8.drewN m) fun e w' => e = .returned (.int .i64 (Y : Int)) ∧ w' = w8.drewN m) := fun m => diskUsed_to _ _ _ _ _ (by rw [HY.out]) _ (d8.out.drews m)
            have q5 : Hid (∀ m, Calls Try.prog 27 #[.pointer (some ⟨q, 0, none⟩)] (w8.drewN m) fun e w' => e = .returned (.int .i64 (Y : Int)) ∧ w' = w8.drewN m) := fun m => by
              have := refDiskUsed_calls _ _ _ _ _ (r8.out.drews m)
              rwa [HY.out] at this
            go_wp2_with fail
            refine wp_region_quiet_lit (by kernel_rfl) (by kernel_rfl) ?_
            first | go_big_quiet_step (fail) | quiet_step (fail)
            first | go_big_quiet_step (fail) | quiet_step (fail)
            first | go_big_quiet_step (fail) | quiet_step (fail)
            first | go_big_quiet_step (fail) | quiet_step (fail)
            first | go_big_quiet_step (fail) | quiet_step (fail)
            first | go_big_quiet_step (fail) | quiet_step (fail)
            first | go_big_quiet_step (fail) | quiet_step (fail)
            first | go_big_quiet_step (fail) | quiet_step (fail)
            first | go_big_quiet_step (exact Calls.quiet_of (q1.out _)) | quiet_step (exact Calls.quiet_of (q1.out _))
            first | go_big_quiet_step (fail) | quiet_step (fail)
            first | go_big_quiet_step (fail) | quiet_step (fail)
            first | go_big_quiet_step (fail) | quiet_step (fail)
            first | go_big_quiet_step (fail) | quiet_step (fail)
            first | go_big_quiet_step (exact Calls.quiet_of_same (q2.out _)) | quiet_step (exact Calls.quiet_of_same (q2.out _))
            first | go_big_quiet_step (fail) | quiet_step (fail)
            first | go_big_quiet_step (fail) | quiet_step (fail)
            first | go_big_quiet_step (fail) | quiet_step (fail)
            first | go_big_quiet_step (fail) | quiet_step (fail)
            first | go_big_quiet_step (fail) | quiet_step (fail)
            first | go_big_quiet_step (fail) | quiet_step (fail)
            first | go_big_quiet_step (fail) | quiet_step (fail)
            first | go_big_quiet_step (fail) | quiet_step (fail)
            first | go_big_quiet_step (fail) | quiet_step (fail)
            first | go_big_quiet_step (exact Calls.quiet_of (q3.out _)) | quiet_step (exact Calls.quiet_of (q3.out _))
            first | go_big_quiet_step (fail) | quiet_step (fail)
            first | go_big_quiet_step (fail) | quiet_step (fail)
            first | go_big_quiet_step (fail) | quiet_step (fail)
            first | go_big_quiet_step (fail) | quiet_step (fail)
            first | go_big_quiet_step (fail) | quiet_step (fail)
            first | go_big_quiet_step (fail) | quiet_step (fail)
            first | go_big_quiet_step (fail) | quiet_step (fail)
            first | go_big_quiet_step (fail) | quiet_step (fail)
            first | go_big_quiet_step (fail) | quiet_step (fail)
            first | go_big_quiet_step (fail) | quiet_step (fail)
            first | go_big_quiet_step (fail) | quiet_step (fail)
            first | go_big_quiet_step (fail) | quiet_step (fail)
            first | go_big_quiet_step (fail) | quiet_step (fail)
            first | go_big_quiet_step (fail) | quiet_step (fail)
            first | go_big_quiet_step (exact Calls.quiet_of_same (q4.out _)) | quiet_step (exact Calls.quiet_of_same (q4.out _))
            first | go_big_quiet_step (fail) | quiet_step (fail)
            first | go_big_quiet_step (exact Calls.quiet_of_same (q5.out _)) | quiet_step (exact Calls.quiet_of_same (q5.out _))
            first | go_big_quiet_step (fail) | quiet_step (fail)
            first | go_big_quiet_step (fail) | quiet_step (fail)
            refine wpQuiet_nil ?_
            intro _ hw'
            obtain ⟨nq, hw''⟩ := hw'
            subst hw''
            go_wp2_with fail
            refine ⟨⟨k + 1, p, g4, g5, D', rfl, by go_num, by omega, HDl.out, d8.out.drews _, r8.out.drews _, AP.out, b8.out.trans ((drewsB _ _).mono b8.out.size)⟩, by simp [intOf]; omega⟩
          · by_cases o2 : op = 2
            · subst o2
              go_wp2_with fail
              have bx0 : (wr.alloc (.cells #[.int .i64 2, .int .i64 n, .string s] 33)).heap[wr.heap.size]? = some (.cells #[.int .i64 2, .int .i64 n, .string s] 33 (0, 0)) := World.alloc_heap_new wr _
              have al := (Below.refl _ wr).alloc (Nat.le_refl _) (.cells #[.int .i64 2, .int .i64 n, .string s] 33)
              have d0 := hide (Hd.out.new al)
              have r0 := hide (Hr.out.new al)
              have b0 := hide (HB.out.trans (al.mono HB.out.size))
              have hbx : ∀ k, onDisk p g k → k ≠ wr.heap.size := fun k h e => by have := (Hd.out.on h).2; omega
              have hbr : ∀ k, onDisk q gr k → k ≠ wr.heap.size := fun k h e => by have := (Hr.out.on h).2; omega
              obtain ⟨bx, hbxe⟩ : ∃ bx, wr.heap.size = bx := ⟨_, rfl⟩
              have hbw : w.heap.size ≤ bx := by rw [← hbxe]; exact HB.out.size
              rw [hbxe] at bx0 hbx hbr ⊢
              obtain ⟨W0, hW0⟩ : ∃ W0, wr.alloc (.cells #[.int .i64 2, .int .i64 n, .string s] 33) = W0 := ⟨_, rfl⟩
              rw [hW0] at bx0 d0 r0 b0 ⊢
              have Hbx := hide hbx
              have Hbr := hide hbr
              clear hW0 hbxe hbx hbr al c0 c1 c2 Hd Hr HB
              have s0 : w.heap.size ≤ W0.heap.size := b0.out.size
              refine (diskSync_calls _ _ _ _ _ d0.out).mono ?_
              rintro e w4 ⟨rfl, d4, t4⟩
              have r4 := r0.out.touch t4 Hap.out.symm
              have b4 := b0.out.trans ((d0.out.below s0 t4).mono (Nat.le_refl _))
              clear t4
              have D4 := hide d4
              have R4 := hide r4
              have B4 := hide b4
              clear d4 r4 b4 bx0
              go_wp2_with fail
              refine (refDiskSync_calls _ _ _ _ _ R4.out).mono ?_
              rintro e w5 ⟨rfl, rF, t5⟩
              have dF := D4.out.touch t5 Hap.out
              have bF := B4.out.trans ((R4.out.below B4.out.size t5).mono (Nat.le_refl _))
              have apF := Hap.out
              have HDl : Hid ((⟨D.room, D.lines, D.lines.length⟩ : DiskD).lines.length ≤ k + 1) := by
                show (⟨D.room, D.lines, D.lines.length⟩ : DiskD).lines.length ≤ k + 1
                dsimp only
                omega
              obtain ⟨D', hD'⟩ : ∃ D', (⟨D.room, D.lines, D.lines.length⟩ : DiskD) = D' := ⟨_, rfl⟩
              rw [hD'] at dF rF HDl
              have DD := hide dF
              have RR := hide rF
              have BB := hide bF
              have AP := hide apF
              clear hD' dF rF bF apF t5 D4 R4 B4 d0 r0 b0 Hap Hbx Hbr
              have hDl2 := HDl.out
              obtain ⟨N, hN⟩ : ∃ N, D'.lines.length = N := ⟨_, rfl⟩
              obtain ⟨M, hM⟩ : ∃ M, D'.lasts = M := ⟨_, rfl⟩
              obtain ⟨Y, hY⟩ : ∃ Y, bytesOf D'.lines = Y := ⟨_, rfl⟩
              have HN := hide hN
              have HM := hide hM
              have HY := hide hY
              have hNM : M ≤ N := by rw [← hM, ← hN]; exact DD.out.ok.lasts
              rw [hN] at hDl2
              clear hN hM hY
              go_wp2_with fail
              refine (diskLines_calls _ _ _ _ _ DD.out).mono ?_
              rintro e w7 ⟨bs, rfl, -, hseq, t7⟩
              have d7 := hide (DD.out.new t7)
              have r7 := hide (RR.out.new t7)
              have b7 := hide (BB.out.trans (t7.mono BB.out.size))
              clear DD RR BB t7
              go_wp2_with fail
              refine (lawLines3_calls _ 70 _ _ hseq (by rw [HN.out]; omega) (by decide)).mono ?_
              rintro e w8 ⟨va, rfl, ra, t8⟩
              have d8 := hide (d7.out.new t8)
              have r8 := hide (r7.out.new t8)
              have b8 := hide (b7.out.trans (t8.mono b7.out.size))
              obtain ⟨aa, ca, rfl⟩ := ownsRow_slice ra
              have i1 := hide (IsStrs.of_row ra)
              obtain ⟨ar, cr, rc0, rc1, rc2, -, -, rrow, -⟩ := r8.out.open
              have i2 := hide (IsStrs.of_row rrow)
              clear d7 r7 b7 t8 hseq ra rrow rc0
              rw [HN.out] at i1 i2 rc1 ⊢
              rw [HM.out] at rc2
              have q1 : Hid (∀ m, Calls Try.prog 23 #[.slice aa N ca, .slice ar N cr] (w8.drewN m) fun e w' => e = .returned (.bool true) ∧ ∃ n, w' = (w8.drewN m).drewN n) := fun m => by
                have := sameLines3_calls _ _ D'.lines D'.lines (w8.drewN m) (i1.out.below (drewsB _ _)) (i2.out.below (drewsB _ _)) (by rw [HN.out]; omega) (by rw [HN.out]; omega)
                rwa [decide_eq_true (show D'.lines = D'.lines from rfl)] at this
              have q2 : Hid (∀ m, Calls Try.prog 24 #[.pointer (some ⟨p, 0, none⟩)] (w8.drewN m) fun e w' => e = .returned (.int .i64 (N : Int)) ∧ w' = w8.drewN m) := fun m => diskLen_to _ _ _ _ _ (by rw [HN.out]) _ (d8.out.drews m)
              have q3 : Hid (∀ m, Calls Try.prog 25 #[.pointer (some ⟨p, 0, none⟩)] (w8.drewN m) fun e w' => e = .returned (.int .i64 ((N : Int) - (M : Int))) ∧ ∃ n, w' = (w8.drewN m).drewN n) := fun m => diskWaits_to _ _ _ _ _ (by rw [HN.out, HM.out]) _ (d8.out.drews m)
              have q4 : Hid (∀ m, Calls Try.prog 26 #[.pointer (some ⟨p, 0, none⟩)] (w8.drewN m) fun e w' => e = .returned (.int .i64 (Y : Int)) ∧ w' = w8.drewN m) := fun m => diskUsed_to _ _ _ _ _ (by rw [HY.out]) _ (d8.out.drews m)
              have q5 : Hid (∀ m, Calls Try.prog 27 #[.pointer (some ⟨q, 0, none⟩)] (w8.drewN m) fun e w' => e = .returned (.int .i64 (Y : Int)) ∧ w' = w8.drewN m) := fun m => by
                have := refDiskUsed_calls _ _ _ _ _ (r8.out.drews m)
                rwa [HY.out] at this
              go_wp2_with fail
              refine wp_region_quiet_lit (by kernel_rfl) (by kernel_rfl) ?_
              first | go_big_quiet_step (fail) | quiet_step (fail)
              first | go_big_quiet_step (fail) | quiet_step (fail)
              first | go_big_quiet_step (fail) | quiet_step (fail)
              first | go_big_quiet_step (fail) | quiet_step (fail)
              first | go_big_quiet_step (fail) | quiet_step (fail)
              first | go_big_quiet_step (fail) | quiet_step (fail)
              first | go_big_quiet_step (fail) | quiet_step (fail)
              first | go_big_quiet_step (fail) | quiet_step (fail)
              first | go_big_quiet_step (exact Calls.quiet_of (q1.out _)) | quiet_step (exact Calls.quiet_of (q1.out _))
              first | go_big_quiet_step (fail) | quiet_step (fail)
              first | go_big_quiet_step (fail) | quiet_step (fail)
              first | go_big_quiet_step (fail) | quiet_step (fail)
              first | go_big_quiet_step (fail) | quiet_step (fail)
              first | go_big_quiet_step (exact Calls.quiet_of_same (q2.out _)) | quiet_step (exact Calls.quiet_of_same (q2.out _))
              first | go_big_quiet_step (fail) | quiet_step (fail)
              first | go_big_quiet_step (fail) | quiet_step (fail)
              first | go_big_quiet_step (fail) | quiet_step (fail)
              first | go_big_quiet_step (fail) | quiet_step (fail)
              first | go_big_quiet_step (fail) | quiet_step (fail)
              first | go_big_quiet_step (fail) | quiet_step (fail)
              first | go_big_quiet_step (fail) | quiet_step (fail)
              first | go_big_quiet_step (fail) | quiet_step (fail)
              first | go_big_quiet_step (fail) | quiet_step (fail)
              first | go_big_quiet_step (exact Calls.quiet_of (q3.out _)) | quiet_step (exact Calls.quiet_of (q3.out _))
              first | go_big_quiet_step (fail) | quiet_step (fail)
              first | go_big_quiet_step (fail) | quiet_step (fail)
              first | go_big_quiet_step (fail) | quiet_step (fail)
              first | go_big_quiet_step (fail) | quiet_step (fail)
              first | go_big_quiet_step (fail) | quiet_step (fail)
              first | go_big_quiet_step (fail) | quiet_step (fail)
              first | go_big_quiet_step (fail) | quiet_step (fail)
              first | go_big_quiet_step (fail) | quiet_step (fail)
              first | go_big_quiet_step (fail) | quiet_step (fail)
              first | go_big_quiet_step (fail) | quiet_step (fail)
              first | go_big_quiet_step (fail) | quiet_step (fail)
              first | go_big_quiet_step (fail) | quiet_step (fail)
              first | go_big_quiet_step (fail) | quiet_step (fail)
              first | go_big_quiet_step (fail) | quiet_step (fail)
              first | go_big_quiet_step (exact Calls.quiet_of_same (q4.out _)) | quiet_step (exact Calls.quiet_of_same (q4.out _))
              first | go_big_quiet_step (fail) | quiet_step (fail)
              first | go_big_quiet_step (exact Calls.quiet_of_same (q5.out _)) | quiet_step (exact Calls.quiet_of_same (q5.out _))
              first | go_big_quiet_step (fail) | quiet_step (fail)
              first | go_big_quiet_step (fail) | quiet_step (fail)
              refine wpQuiet_nil ?_
              intro _ hw'
              obtain ⟨nq, hw''⟩ := hw'
              subst hw''
              go_wp2_with fail
              refine ⟨⟨k + 1, p, g, gr, D', rfl, by go_num, by omega, HDl.out, d8.out.drews _, r8.out.drews _, AP.out, b8.out.trans ((drewsB _ _).mono b8.out.size)⟩, by simp [intOf]; omega⟩
            · by_cases o3 : op = 3
              · subst o3
                go_wp2_with fail
                have bx0 : (wr.alloc (.cells #[.int .i64 3, .int .i64 n, .string s] 33)).heap[wr.heap.size]? = some (.cells #[.int .i64 3, .int .i64 n, .string s] 33 (0, 0)) := World.alloc_heap_new wr _
                have al := (Below.refl _ wr).alloc (Nat.le_refl _) (.cells #[.int .i64 3, .int .i64 n, .string s] 33)
                have d0 := hide (Hd.out.new al)
                have r0 := hide (Hr.out.new al)
                have b0 := hide (HB.out.trans (al.mono HB.out.size))
                have hbx : ∀ k, onDisk p g k → k ≠ wr.heap.size := fun k h e => by have := (Hd.out.on h).2; omega
                have hbr : ∀ k, onDisk q gr k → k ≠ wr.heap.size := fun k h e => by have := (Hr.out.on h).2; omega
                obtain ⟨bx, hbxe⟩ : ∃ bx, wr.heap.size = bx := ⟨_, rfl⟩
                have hbw : w.heap.size ≤ bx := by rw [← hbxe]; exact HB.out.size
                rw [hbxe] at bx0 hbx hbr ⊢
                obtain ⟨W0, hW0⟩ : ∃ W0, wr.alloc (.cells #[.int .i64 3, .int .i64 n, .string s] 33) = W0 := ⟨_, rfl⟩
                rw [hW0] at bx0 d0 r0 b0 ⊢
                have Hbx := hide hbx
                have Hbr := hide hbr
                clear hW0 hbxe hbx hbr al c0 c1 c2 Hd Hr HB
                have s0 : w.heap.size ≤ W0.heap.size := b0.out.size
                refine (diskCrash_calls _ _ _ _ n _ d0.out hn0.1 hn0.2).mono ?_
                rintro e w4 ⟨rfl, d4, t4⟩
                have r4 := r0.out.touch t4 Hap.out.symm
                have b4 := b0.out.trans ((d0.out.below s0 t4).mono (Nat.le_refl _))
                have bx4 := (t4.block bx (ltAt bx0) (fun h => Hbx.out bx h rfl)).trans bx0
                have z4 : w4.cell? ⟨bx, 1, none⟩ = some (.int .i64 n) := by simpa using cellsAt bx4 1
                clear t4
                have D4 := hide d4
                have R4 := hide r4
                have B4 := hide b4
                clear d4 r4 b4 bx0 bx4
                go_wp2_with fail
                refine (refDiskCrash_calls _ _ _ _ n _ R4.out B4.out.size hn0.1 hn0.2).mono ?_
                rintro e w5 ⟨rfl, g5, rF, t5, n5⟩
                have dF := D4.out.touch t5 Hap.out
                have bF := B4.out.trans ((R4.out.below B4.out.size t5).mono (Nat.le_refl _))
                have apF : Apart p g q g5 := (Hap.out.symm.goes D4.out n5).symm
                clear z4
                have HDl : Hid ((crashD D n).lines.length ≤ k + 1) := by
                  show (crashD D n).lines.length ≤ k + 1
                  unfold crashD
                  simp
                  omega
                obtain ⟨D', hD'⟩ : ∃ D', (crashD D n) = D' := ⟨_, rfl⟩
                rw [hD'] at dF rF HDl
                have DD := hide dF
                have RR := hide rF
                have BB := hide bF
                have AP := hide apF
                clear hD' dF rF bF apF t5 n5 D4 R4 B4 d0 r0 b0 Hap Hbx Hbr
                have hDl2 := HDl.out
                obtain ⟨N, hN⟩ : ∃ N, D'.lines.length = N := ⟨_, rfl⟩
                obtain ⟨M, hM⟩ : ∃ M, D'.lasts = M := ⟨_, rfl⟩
                obtain ⟨Y, hY⟩ : ∃ Y, bytesOf D'.lines = Y := ⟨_, rfl⟩
                have HN := hide hN
                have HM := hide hM
                have HY := hide hY
                have hNM : M ≤ N := by rw [← hM, ← hN]; exact DD.out.ok.lasts
                rw [hN] at hDl2
                clear hN hM hY
                go_wp2_with fail
                refine (diskLines_calls _ _ _ _ _ DD.out).mono ?_
                rintro e w7 ⟨bs, rfl, -, hseq, t7⟩
                have d7 := hide (DD.out.new t7)
                have r7 := hide (RR.out.new t7)
                have b7 := hide (BB.out.trans (t7.mono BB.out.size))
                clear DD RR BB t7
                go_wp2_with fail
                refine (lawLines3_calls _ 70 _ _ hseq (by rw [HN.out]; omega) (by decide)).mono ?_
                rintro e w8 ⟨va, rfl, ra, t8⟩
                have d8 := hide (d7.out.new t8)
                have r8 := hide (r7.out.new t8)
                have b8 := hide (b7.out.trans (t8.mono b7.out.size))
                obtain ⟨aa, ca, rfl⟩ := ownsRow_slice ra
                have i1 := hide (IsStrs.of_row ra)
                obtain ⟨ar, cr, rc0, rc1, rc2, -, -, rrow, -⟩ := r8.out.open
                have i2 := hide (IsStrs.of_row rrow)
                clear d7 r7 b7 t8 hseq ra rrow rc0
                rw [HN.out] at i1 i2 rc1 ⊢
                rw [HM.out] at rc2
                have q1 : Hid (∀ m, Calls Try.prog 23 #[.slice aa N ca, .slice ar N cr] (w8.drewN m) fun e w' => e = .returned (.bool true) ∧ ∃ n, w' = (w8.drewN m).drewN n) := fun m => by
                  have := sameLines3_calls _ _ D'.lines D'.lines (w8.drewN m) (i1.out.below (drewsB _ _)) (i2.out.below (drewsB _ _)) (by rw [HN.out]; omega) (by rw [HN.out]; omega)
                  rwa [decide_eq_true (show D'.lines = D'.lines from rfl)] at this
                have q2 : Hid (∀ m, Calls Try.prog 24 #[.pointer (some ⟨p, 0, none⟩)] (w8.drewN m) fun e w' => e = .returned (.int .i64 (N : Int)) ∧ w' = w8.drewN m) := fun m => diskLen_to _ _ _ _ _ (by rw [HN.out]) _ (d8.out.drews m)
                have q3 : Hid (∀ m, Calls Try.prog 25 #[.pointer (some ⟨p, 0, none⟩)] (w8.drewN m) fun e w' => e = .returned (.int .i64 ((N : Int) - (M : Int))) ∧ ∃ n, w' = (w8.drewN m).drewN n) := fun m => diskWaits_to _ _ _ _ _ (by rw [HN.out, HM.out]) _ (d8.out.drews m)
                have q4 : Hid (∀ m, Calls Try.prog 26 #[.pointer (some ⟨p, 0, none⟩)] (w8.drewN m) fun e w' => e = .returned (.int .i64 (Y : Int)) ∧ w' = w8.drewN m) := fun m => diskUsed_to _ _ _ _ _ (by rw [HY.out]) _ (d8.out.drews m)
                have q5 : Hid (∀ m, Calls Try.prog 27 #[.pointer (some ⟨q, 0, none⟩)] (w8.drewN m) fun e w' => e = .returned (.int .i64 (Y : Int)) ∧ w' = w8.drewN m) := fun m => by
                  have := refDiskUsed_calls _ _ _ _ _ (r8.out.drews m)
                  rwa [HY.out] at this
                go_wp2_with fail
                refine wp_region_quiet_lit (by kernel_rfl) (by kernel_rfl) ?_
                first | go_big_quiet_step (fail) | quiet_step (fail)
                first | go_big_quiet_step (fail) | quiet_step (fail)
                first | go_big_quiet_step (fail) | quiet_step (fail)
                first | go_big_quiet_step (fail) | quiet_step (fail)
                first | go_big_quiet_step (fail) | quiet_step (fail)
                first | go_big_quiet_step (fail) | quiet_step (fail)
                first | go_big_quiet_step (fail) | quiet_step (fail)
                first | go_big_quiet_step (fail) | quiet_step (fail)
                first | go_big_quiet_step (exact Calls.quiet_of (q1.out _)) | quiet_step (exact Calls.quiet_of (q1.out _))
                first | go_big_quiet_step (fail) | quiet_step (fail)
                first | go_big_quiet_step (fail) | quiet_step (fail)
                first | go_big_quiet_step (fail) | quiet_step (fail)
                first | go_big_quiet_step (fail) | quiet_step (fail)
                first | go_big_quiet_step (exact Calls.quiet_of_same (q2.out _)) | quiet_step (exact Calls.quiet_of_same (q2.out _))
                first | go_big_quiet_step (fail) | quiet_step (fail)
                first | go_big_quiet_step (fail) | quiet_step (fail)
                first | go_big_quiet_step (fail) | quiet_step (fail)
                first | go_big_quiet_step (fail) | quiet_step (fail)
                first | go_big_quiet_step (fail) | quiet_step (fail)
                first | go_big_quiet_step (fail) | quiet_step (fail)
                first | go_big_quiet_step (fail) | quiet_step (fail)
                first | go_big_quiet_step (fail) | quiet_step (fail)
                first | go_big_quiet_step (fail) | quiet_step (fail)
                first | go_big_quiet_step (exact Calls.quiet_of (q3.out _)) | quiet_step (exact Calls.quiet_of (q3.out _))
                first | go_big_quiet_step (fail) | quiet_step (fail)
                first | go_big_quiet_step (fail) | quiet_step (fail)
                first | go_big_quiet_step (fail) | quiet_step (fail)
                first | go_big_quiet_step (fail) | quiet_step (fail)
                first | go_big_quiet_step (fail) | quiet_step (fail)
                first | go_big_quiet_step (fail) | quiet_step (fail)
                first | go_big_quiet_step (fail) | quiet_step (fail)
                first | go_big_quiet_step (fail) | quiet_step (fail)
                first | go_big_quiet_step (fail) | quiet_step (fail)
                first | go_big_quiet_step (fail) | quiet_step (fail)
                first | go_big_quiet_step (fail) | quiet_step (fail)
                first | go_big_quiet_step (fail) | quiet_step (fail)
                first | go_big_quiet_step (fail) | quiet_step (fail)
                first | go_big_quiet_step (fail) | quiet_step (fail)
                first | go_big_quiet_step (exact Calls.quiet_of_same (q4.out _)) | quiet_step (exact Calls.quiet_of_same (q4.out _))
                first | go_big_quiet_step (fail) | quiet_step (fail)
                first | go_big_quiet_step (exact Calls.quiet_of_same (q5.out _)) | quiet_step (exact Calls.quiet_of_same (q5.out _))
                first | go_big_quiet_step (fail) | quiet_step (fail)
                first | go_big_quiet_step (fail) | quiet_step (fail)
                refine wpQuiet_nil ?_
                intro _ hw'
                obtain ⟨nq, hw''⟩ := hw'
                subst hw''
                go_wp2_with fail
                refine ⟨⟨k + 1, p, g, g5, D', rfl, by go_num, by omega, HDl.out, d8.out.drews _, r8.out.drews _, AP.out, b8.out.trans ((drewsB _ _).mono b8.out.size)⟩, by simp [intOf]; omega⟩
              · by_cases o4 : op = 4
                · subst o4
                  go_wp2_with fail
                  have bx0 : (wr.alloc (.cells #[.int .i64 4, .int .i64 n, .string s] 33)).heap[wr.heap.size]? = some (.cells #[.int .i64 4, .int .i64 n, .string s] 33 (0, 0)) := World.alloc_heap_new wr _
                  have al := (Below.refl _ wr).alloc (Nat.le_refl _) (.cells #[.int .i64 4, .int .i64 n, .string s] 33)
                  have d0 := hide (Hd.out.new al)
                  have r0 := hide (Hr.out.new al)
                  have b0 := hide (HB.out.trans (al.mono HB.out.size))
                  have hbx : ∀ k, onDisk p g k → k ≠ wr.heap.size := fun k h e => by have := (Hd.out.on h).2; omega
                  have hbr : ∀ k, onDisk q gr k → k ≠ wr.heap.size := fun k h e => by have := (Hr.out.on h).2; omega
                  obtain ⟨bx, hbxe⟩ : ∃ bx, wr.heap.size = bx := ⟨_, rfl⟩
                  have hbw : w.heap.size ≤ bx := by rw [← hbxe]; exact HB.out.size
                  rw [hbxe] at bx0 hbx hbr ⊢
                  obtain ⟨W0, hW0⟩ : ∃ W0, wr.alloc (.cells #[.int .i64 4, .int .i64 n, .string s] 33) = W0 := ⟨_, rfl⟩
                  rw [hW0] at bx0 d0 r0 b0 ⊢
                  have Hbx := hide hbx
                  have Hbr := hide hbr
                  clear hW0 hbxe hbx hbr al c0 c1 c2 Hd Hr HB
                  obtain ⟨W1, hW1⟩ : ∃ W1, W0.drew = W1 := ⟨_, rfl⟩
                  have hh : W1.heap = W0.heap := by rw [← hW1]; rfl
                  have d1 := hide (show IsDisk W1 w.heap.size p g D from d0.out.keep fun _ _ => by rw [hh])
                  have r1 := hide (show IsRD W1 w.heap.size q gr D from r0.out.keep fun _ _ => by rw [hh])
                  have b1 : Hid (Below w.heap.size w W1) := by rw [← hW1]; exact b0.out.drew
                  have bx1 : W1.heap[bx]? = _ := (by rw [hh] : W1.heap[bx]? = W0.heap[bx]?).trans bx0
                  have s1 : w.heap.size ≤ W1.heap.size := b1.out.size
                  refine region_headT 9 (fun W => W.cell? ⟨bx, 1, none⟩ = some (.int .i64 n)) (by kernel_rfl) (by decide) ?_
                  rw [hW1]
                  clear hW1 hh d0 r0 b0 bx0
                  have z1 : W1.cell? ⟨bx, 1, none⟩ = some (.int .i64 n) := by simpa using cellsAt bx1 1
                  refine HeadT.take 0 (.pointer (some ⟨p, 0, none⟩)) rfl (by kernel_rfl) (.inl ⟨rfl, fun w2 s0 => by go_simp⟩) z1 ?_
                  refine HeadT.take 1 (.pointer (some ⟨bx, 1, none⟩)) rfl (by kernel_rfl) (.inl ⟨rfl, fun w2 s0 => by go_simp⟩) z1 ?_
                  refine HeadT.take 2 (.int .i64 n) rfl (by kernel_rfl) (.inl ⟨rfl, fun w2 s0 => by go_simp⟩) z1 ?_
                  refine HeadT.take 4 (.pointer (some ⟨q, 0, none⟩)) rfl (by kernel_rfl) (.inl ⟨rfl, fun w2 s0 => by go_simp⟩) z1 ?_
                  refine HeadT.take 5 (.pointer (some ⟨bx, 1, none⟩)) rfl (by kernel_rfl) (.inl ⟨rfl, fun w2 s0 => by go_simp⟩) z1 ?_
                  refine HeadT.take 6 (.int .i64 n) rfl (by kernel_rfl) (.inl ⟨rfl, fun w2 s0 => by go_simp⟩) z1 ?_
                  refine HeadT.only 3 (by kernel_rfl) ?_
                  refine wpOp_call rfl rfl 18 #[.pointer (some ⟨p, 0, none⟩), .int .i64 n] (by go_simp) (diskCut_calls _ p g D n W1 d1.out) ?_
                  rintro e w4 ⟨rfl, d4, t4⟩
                  have r4 := r1.out.touch t4 Hap.out.symm
                  have b4 := b1.out.trans ((d1.out.below s1 t4).mono (Nat.le_refl _))
                  have bx4 := (t4.block bx (ltAt bx1) (fun h => Hbx.out bx h rfl)).trans bx1
                  have z4 : w4.cell? ⟨bx, 1, none⟩ = some (.int .i64 n) := by simpa using cellsAt bx4 1
                  refine ⟨_, rfl, z4, ?_⟩
                  refine HeadT.only 7 (by kernel_rfl) ?_
                  refine wpOp_call rfl rfl 19 #[.pointer (some ⟨q, 0, none⟩), .int .i64 n] (by go_simp) (refDiskCut_calls _ q gr D n w4 r4 b4.size) ?_
                  rintro e w5 ⟨rfl, g5, r5, t5, n5⟩
                  have ap4 : Apart p g q gr := Hap.out
                  have d5 := d4.touch t5 ap4
                  have b5 := b4.trans ((r4.below b4.size t5).mono (Nat.le_refl _))
                  have bx5 := (t5.block bx (ltAt bx4) (fun h => Hbr.out bx h rfl)).trans bx4
                  have z5 : w5.cell? ⟨bx, 1, none⟩ = some (.int .i64 n) := by simpa using cellsAt bx5 1
                  have ap5 : Apart p g q g5 := (ap4.symm.goes d4 n5).symm
                  refine ⟨_, rfl, z5, ?_⟩
                  refine HeadT.take 8 (.bool false) rfl (by kernel_rfl) (.inl ⟨rfl, fun w2 s0 => by go_simp⟩) z5 ?_
                  refine HeadT.tail rfl (by kernel_rfl) ?_
                  simp only [List.drop_succ_cons, List.drop_zero]
                  have dF := d5
                  have rF := r5
                  have bF := b5
                  have apF := ap5
                  clear d5 r5 b5 ap5
                  have HDl : Hid ((cutD D n).lines.length ≤ k + 1) := by
                    show (cutD D n).lines.length ≤ k + 1
                    unfold cutD
                    split
                    · simp; omega
                    · omega
                  obtain ⟨D', hD'⟩ : ∃ D', (cutD D n) = D' := ⟨_, rfl⟩
                  rw [hD'] at dF rF HDl
                  have DD := hide dF
                  have RR := hide rF
                  have BB := hide bF
                  have AP := hide apF
                  clear hD' dF rF bF apF z5 bx5 ap4 n5 t5 bx4 z4 b4 r4 t4 d4 d1 r1 b1 bx1 z1 s1 Hap Hbx Hbr
                  go_wp2_with fail
                  simp only [noPanic]
                  go_simp
                  have hDl2 := HDl.out
                  obtain ⟨N, hN⟩ : ∃ N, D'.lines.length = N := ⟨_, rfl⟩
                  obtain ⟨M, hM⟩ : ∃ M, D'.lasts = M := ⟨_, rfl⟩
                  obtain ⟨Y, hY⟩ : ∃ Y, bytesOf D'.lines = Y := ⟨_, rfl⟩
                  have HN := hide hN
                  have HM := hide hM
                  have HY := hide hY
                  have hNM : M ≤ N := by rw [← hM, ← hN]; exact DD.out.ok.lasts
                  rw [hN] at hDl2
                  clear hN hM hY
                  go_wp2_with fail
                  refine (diskLines_calls _ _ _ _ _ DD.out).mono ?_
                  rintro e w7 ⟨bs, rfl, -, hseq, t7⟩
                  have d7 := hide (DD.out.new t7)
                  have r7 := hide (RR.out.new t7)
                  have b7 := hide (BB.out.trans (t7.mono BB.out.size))
                  clear DD RR BB t7
                  go_wp2_with fail
                  refine (lawLines3_calls _ 70 _ _ hseq (by rw [HN.out]; omega) (by decide)).mono ?_
                  rintro e w8 ⟨va, rfl, ra, t8⟩
                  have d8 := hide (d7.out.new t8)
                  have r8 := hide (r7.out.new t8)
                  have b8 := hide (b7.out.trans (t8.mono b7.out.size))
                  obtain ⟨aa, ca, rfl⟩ := ownsRow_slice ra
                  have i1 := hide (IsStrs.of_row ra)
                  obtain ⟨ar, cr, rc0, rc1, rc2, -, -, rrow, -⟩ := r8.out.open
                  have i2 := hide (IsStrs.of_row rrow)
                  clear d7 r7 b7 t8 hseq ra rrow rc0
                  rw [HN.out] at i1 i2 rc1 ⊢
                  rw [HM.out] at rc2
                  have q1 : Hid (∀ m, Calls Try.prog 23 #[.slice aa N ca, .slice ar N cr] (w8.drewN m) fun e w' => e = .returned (.bool true) ∧ ∃ n, w' = (w8.drewN m).drewN n) := fun m => by
                    have := sameLines3_calls _ _ D'.lines D'.lines (w8.drewN m) (i1.out.below (drewsB _ _)) (i2.out.below (drewsB _ _)) (by rw [HN.out]; omega) (by rw [HN.out]; omega)
                    rwa [decide_eq_true (show D'.lines = D'.lines from rfl)] at this
                  have q2 : Hid (∀ m, Calls Try.prog 24 #[.pointer (some ⟨p, 0, none⟩)] (w8.drewN m) fun e w' => e = .returned (.int .i64 (N : Int)) ∧ w' = w8.drewN m) := fun m => diskLen_to _ _ _ _ _ (by rw [HN.out]) _ (d8.out.drews m)
                  have q3 : Hid (∀ m, Calls Try.prog 25 #[.pointer (some ⟨p, 0, none⟩)] (w8.drewN m) fun e w' => e = .returned (.int .i64 ((N : Int) - (M : Int))) ∧ ∃ n, w' = (w8.drewN m).drewN n) := fun m => diskWaits_to _ _ _ _ _ (by rw [HN.out, HM.out]) _ (d8.out.drews m)
                  have q4 : Hid (∀ m, Calls Try.prog 26 #[.pointer (some ⟨p, 0, none⟩)] (w8.drewN m) fun e w' => e = .returned (.int .i64 (Y : Int)) ∧ w' = w8.drewN m) := fun m => diskUsed_to _ _ _ _ _ (by rw [HY.out]) _ (d8.out.drews m)
                  have q5 : Hid (∀ m, Calls Try.prog 27 #[.pointer (some ⟨q, 0, none⟩)] (w8.drewN m) fun e w' => e = .returned (.int .i64 (Y : Int)) ∧ w' = w8.drewN m) := fun m => by
                    have := refDiskUsed_calls _ _ _ _ _ (r8.out.drews m)
                    rwa [HY.out] at this
                  go_wp2_with fail
                  refine wp_region_quiet_lit (by kernel_rfl) (by kernel_rfl) ?_
                  first | go_big_quiet_step (fail) | quiet_step (fail)
                  first | go_big_quiet_step (fail) | quiet_step (fail)
                  first | go_big_quiet_step (fail) | quiet_step (fail)
                  first | go_big_quiet_step (fail) | quiet_step (fail)
                  first | go_big_quiet_step (fail) | quiet_step (fail)
                  first | go_big_quiet_step (fail) | quiet_step (fail)
                  first | go_big_quiet_step (fail) | quiet_step (fail)
                  first | go_big_quiet_step (fail) | quiet_step (fail)
                  first | go_big_quiet_step (exact Calls.quiet_of (q1.out _)) | quiet_step (exact Calls.quiet_of (q1.out _))
                  first | go_big_quiet_step (fail) | quiet_step (fail)
                  first | go_big_quiet_step (fail) | quiet_step (fail)
                  first | go_big_quiet_step (fail) | quiet_step (fail)
                  first | go_big_quiet_step (fail) | quiet_step (fail)
                  first | go_big_quiet_step (exact Calls.quiet_of_same (q2.out _)) | quiet_step (exact Calls.quiet_of_same (q2.out _))
                  first | go_big_quiet_step (fail) | quiet_step (fail)
                  first | go_big_quiet_step (fail) | quiet_step (fail)
                  first | go_big_quiet_step (fail) | quiet_step (fail)
                  first | go_big_quiet_step (fail) | quiet_step (fail)
                  first | go_big_quiet_step (fail) | quiet_step (fail)
                  first | go_big_quiet_step (fail) | quiet_step (fail)
                  first | go_big_quiet_step (fail) | quiet_step (fail)
                  first | go_big_quiet_step (fail) | quiet_step (fail)
                  first | go_big_quiet_step (fail) | quiet_step (fail)
                  first | go_big_quiet_step (exact Calls.quiet_of (q3.out _)) | quiet_step (exact Calls.quiet_of (q3.out _))
                  first | go_big_quiet_step (fail) | quiet_step (fail)
                  first | go_big_quiet_step (fail) | quiet_step (fail)
                  first | go_big_quiet_step (fail) | quiet_step (fail)
                  first | go_big_quiet_step (fail) | quiet_step (fail)
                  first | go_big_quiet_step (fail) | quiet_step (fail)
                  first | go_big_quiet_step (fail) | quiet_step (fail)
                  first | go_big_quiet_step (fail) | quiet_step (fail)
                  first | go_big_quiet_step (fail) | quiet_step (fail)
                  first | go_big_quiet_step (fail) | quiet_step (fail)
                  first | go_big_quiet_step (fail) | quiet_step (fail)
                  first | go_big_quiet_step (fail) | quiet_step (fail)
                  first | go_big_quiet_step (fail) | quiet_step (fail)
                  first | go_big_quiet_step (fail) | quiet_step (fail)
                  first | go_big_quiet_step (fail) | quiet_step (fail)
                  first | go_big_quiet_step (exact Calls.quiet_of_same (q4.out _)) | quiet_step (exact Calls.quiet_of_same (q4.out _))
                  first | go_big_quiet_step (fail) | quiet_step (fail)
                  first | go_big_quiet_step (exact Calls.quiet_of_same (q5.out _)) | quiet_step (exact Calls.quiet_of_same (q5.out _))
                  first | go_big_quiet_step (fail) | quiet_step (fail)
                  first | go_big_quiet_step (fail) | quiet_step (fail)
                  refine wpQuiet_nil ?_
                  intro _ hw'
                  obtain ⟨nq, hw''⟩ := hw'
                  subst hw''
                  go_wp2_with fail
                  refine ⟨⟨k + 1, p, g, g5, D', rfl, by go_num, by omega, HDl.out, d8.out.drews _, r8.out.drews _, AP.out, b8.out.trans ((drewsB _ _).mono b8.out.size)⟩, by simp [intOf]; omega⟩
                · by_cases o5 : op = 5
                  · subst o5
                    go_wp2_with fail
                    have bx0 : (wr.alloc (.cells #[.int .i64 5, .int .i64 n, .string s] 33)).heap[wr.heap.size]? = some (.cells #[.int .i64 5, .int .i64 n, .string s] 33 (0, 0)) := World.alloc_heap_new wr _
                    have al := (Below.refl _ wr).alloc (Nat.le_refl _) (.cells #[.int .i64 5, .int .i64 n, .string s] 33)
                    have d0 := hide (Hd.out.new al)
                    have r0 := hide (Hr.out.new al)
                    have b0 := hide (HB.out.trans (al.mono HB.out.size))
                    have hbx : ∀ k, onDisk p g k → k ≠ wr.heap.size := fun k h e => by have := (Hd.out.on h).2; omega
                    have hbr : ∀ k, onDisk q gr k → k ≠ wr.heap.size := fun k h e => by have := (Hr.out.on h).2; omega
                    obtain ⟨bx, hbxe⟩ : ∃ bx, wr.heap.size = bx := ⟨_, rfl⟩
                    have hbw : w.heap.size ≤ bx := by rw [← hbxe]; exact HB.out.size
                    rw [hbxe] at bx0 hbx hbr ⊢
                    obtain ⟨W0, hW0⟩ : ∃ W0, wr.alloc (.cells #[.int .i64 5, .int .i64 n, .string s] 33) = W0 := ⟨_, rfl⟩
                    rw [hW0] at bx0 d0 r0 b0 ⊢
                    have Hbx := hide hbx
                    have Hbr := hide hbr
                    clear hW0 hbxe hbx hbr al c0 c1 c2 Hd Hr HB
                    have s0 : w.heap.size ≤ W0.heap.size := b0.out.size
                    refine (diskTwin_calls _ _ _ _ _ d0.out).mono ?_
                    rintro e w3 ⟨rfl, gt, dt, tt⟩
                    have ap := apart_new d0.out dt (Nat.le_refl _)
                    have apr : Apart W0.heap.size gt q gr := fun j h1 h2 => by
                      have e1 := (dt.on h1).1
                      have e2 := (r0.out.on h2).2
                      omega
                    have d3 := hide (d0.out.new tt)
                    have r3 := hide (r0.out.new tt)
                    have b3 := hide (b0.out.trans (tt.mono s0))
                    have dt3 := hide (dt.lower s0)
                    obtain ⟨p2, hp2⟩ : ∃ p2, W0.heap.size = p2 := ⟨_, rfl⟩
                    rw [hp2] at ap apr dt3 ⊢
                    have Ap := hide ap
                    have Apr := hide apr
                    have s3 : w.heap.size ≤ w3.heap.size := b3.out.size
                    clear dt tt ap apr hp2 d0 r0 b0 bx0
                    go_wp2_with fail
                    refine (diskCrash_calls _ _ _ _ 0 _ d3.out (by decide) (by decide)).mono ?_
                    rintro e w4 ⟨rfl, d4, t4⟩
                    have r4 := hide (r3.out.touch t4 Hap.out.symm)
                    have dt4 := hide (dt3.out.touch t4 Ap.out.symm)
                    have b4 := hide (b3.out.trans ((d3.out.below s3 t4).mono (Nat.le_refl _)))
                    have D4 := hide d4
                    clear d4 t4 d3 r3 b3 dt3
                    go_wp2_with fail
                    refine (diskWrite_calls _ _ _ _ _ _ D4.out b4.out.size (by decide)).mono ?_
                    rintro e w5 ⟨rfl, g5, d5, t5, n5⟩
                    have rF := r4.out.touch t5 Hap.out.symm
                    have dF := dt4.out.touch t5 Ap.out.symm
                    have bF := b4.out.trans ((D4.out.below b4.out.size t5).mono (Nat.le_refl _))
                    have apF := Apr.out
                    have HDl : Hid ((id D).lines.length ≤ k + 1) := by
                      show (id D).lines.length ≤ k + 1
                      show D.lines.length ≤ k + 1
                      omega
                    obtain ⟨D', hD'⟩ : ∃ D', (id D) = D' := ⟨_, rfl⟩
                    have hD2 : D = D' := hD'
                    rw [hD'] at HDl
                    rw [hD2] at dF rF
                    have DD := hide dF
                    have RR := hide rF
                    have BB := hide bF
                    have AP := hide apF
                    clear hD' hD2 dF rF bF apF t5 n5 d5 D4 r4 b4 dt4 Hap Hbx Hbr Ap Apr
                    have hDl2 := HDl.out
                    obtain ⟨N, hN⟩ : ∃ N, D'.lines.length = N := ⟨_, rfl⟩
                    obtain ⟨M, hM⟩ : ∃ M, D'.lasts = M := ⟨_, rfl⟩
                    obtain ⟨Y, hY⟩ : ∃ Y, bytesOf D'.lines = Y := ⟨_, rfl⟩
                    have HN := hide hN
                    have HM := hide hM
                    have HY := hide hY
                    have hNM : M ≤ N := by rw [← hM, ← hN]; exact DD.out.ok.lasts
                    rw [hN] at hDl2
                    clear hN hM hY
                    go_wp2_with fail
                    refine (diskLines_calls _ _ _ _ _ DD.out).mono ?_
                    rintro e w7 ⟨bs, rfl, -, hseq, t7⟩
                    have d7 := hide (DD.out.new t7)
                    have r7 := hide (RR.out.new t7)
                    have b7 := hide (BB.out.trans (t7.mono BB.out.size))
                    clear DD RR BB t7
                    go_wp2_with fail
                    refine (lawLines3_calls _ 70 _ _ hseq (by rw [HN.out]; omega) (by decide)).mono ?_
                    rintro e w8 ⟨va, rfl, ra, t8⟩
                    have d8 := hide (d7.out.new t8)
                    have r8 := hide (r7.out.new t8)
                    have b8 := hide (b7.out.trans (t8.mono b7.out.size))
                    obtain ⟨aa, ca, rfl⟩ := ownsRow_slice ra
                    have i1 := hide (IsStrs.of_row ra)
                    obtain ⟨ar, cr, rc0, rc1, rc2, -, -, rrow, -⟩ := r8.out.open
                    have i2 := hide (IsStrs.of_row rrow)
                    clear d7 r7 b7 t8 hseq ra rrow rc0
                    rw [HN.out] at i1 i2 rc1 ⊢
                    rw [HM.out] at rc2
                    have q1 : Hid (∀ m, Calls Try.prog 23 #[.slice aa N ca, .slice ar N cr] (w8.drewN m) fun e w' => e = .returned (.bool true) ∧ ∃ n, w' = (w8.drewN m).drewN n) := fun m => by
                      have := sameLines3_calls _ _ D'.lines D'.lines (w8.drewN m) (i1.out.below (drewsB _ _)) (i2.out.below (drewsB _ _)) (by rw [HN.out]; omega) (by rw [HN.out]; omega)
                      rwa [decide_eq_true (show D'.lines = D'.lines from rfl)] at this
                    have q2 : Hid (∀ m, Calls Try.prog 24 #[.pointer (some ⟨p2, 0, none⟩)] (w8.drewN m) fun e w' => e = .returned (.int .i64 (N : Int)) ∧ w' = w8.drewN m) := fun m => diskLen_to _ _ _ _ _ (by rw [HN.out]) _ (d8.out.drews m)
                    have q3 : Hid (∀ m, Calls Try.prog 25 #[.pointer (some ⟨p2, 0, none⟩)] (w8.drewN m) fun e w' => e = .returned (.int .i64 ((N : Int) - (M : Int))) ∧ ∃ n, w' = (w8.drewN m).drewN n) := fun m => diskWaits_to _ _ _ _ _ (by rw [HN.out, HM.out]) _ (d8.out.drews m)
                    have q4 : Hid (∀ m, Calls Try.prog 26 #[.pointer (some ⟨p2, 0, none⟩)] (w8.drewN m) fun e w' => e = .returned (.int .i64 (Y : Int)) ∧ w' = w8.drewN m) := fun m => diskUsed_to _ _ _ _ _ (by rw [HY.out]) _ (d8.out.drews m)
                    have q5 : Hid (∀ m, Calls Try.prog 27 #[.pointer (some ⟨q, 0, none⟩)] (w8.drewN m) fun e w' => e = .returned (.int .i64 (Y : Int)) ∧ w' = w8.drewN m) := fun m => by
                      have := refDiskUsed_calls _ _ _ _ _ (r8.out.drews m)
                      rwa [HY.out] at this
                    go_wp2_with fail
                    refine wp_region_quiet_lit (by kernel_rfl) (by kernel_rfl) ?_
                    first | go_big_quiet_step (fail) | quiet_step (fail)
                    first | go_big_quiet_step (fail) | quiet_step (fail)
                    first | go_big_quiet_step (fail) | quiet_step (fail)
                    first | go_big_quiet_step (fail) | quiet_step (fail)
                    first | go_big_quiet_step (fail) | quiet_step (fail)
                    first | go_big_quiet_step (fail) | quiet_step (fail)
                    first | go_big_quiet_step (fail) | quiet_step (fail)
                    first | go_big_quiet_step (fail) | quiet_step (fail)
                    first | go_big_quiet_step (exact Calls.quiet_of (q1.out _)) | quiet_step (exact Calls.quiet_of (q1.out _))
                    first | go_big_quiet_step (fail) | quiet_step (fail)
                    first | go_big_quiet_step (fail) | quiet_step (fail)
                    first | go_big_quiet_step (fail) | quiet_step (fail)
                    first | go_big_quiet_step (fail) | quiet_step (fail)
                    first | go_big_quiet_step (exact Calls.quiet_of_same (q2.out _)) | quiet_step (exact Calls.quiet_of_same (q2.out _))
                    first | go_big_quiet_step (fail) | quiet_step (fail)
                    first | go_big_quiet_step (fail) | quiet_step (fail)
                    first | go_big_quiet_step (fail) | quiet_step (fail)
                    first | go_big_quiet_step (fail) | quiet_step (fail)
                    first | go_big_quiet_step (fail) | quiet_step (fail)
                    first | go_big_quiet_step (fail) | quiet_step (fail)
                    first | go_big_quiet_step (fail) | quiet_step (fail)
                    first | go_big_quiet_step (fail) | quiet_step (fail)
                    first | go_big_quiet_step (fail) | quiet_step (fail)
                    first | go_big_quiet_step (exact Calls.quiet_of (q3.out _)) | quiet_step (exact Calls.quiet_of (q3.out _))
                    first | go_big_quiet_step (fail) | quiet_step (fail)
                    first | go_big_quiet_step (fail) | quiet_step (fail)
                    first | go_big_quiet_step (fail) | quiet_step (fail)
                    first | go_big_quiet_step (fail) | quiet_step (fail)
                    first | go_big_quiet_step (fail) | quiet_step (fail)
                    first | go_big_quiet_step (fail) | quiet_step (fail)
                    first | go_big_quiet_step (fail) | quiet_step (fail)
                    first | go_big_quiet_step (fail) | quiet_step (fail)
                    first | go_big_quiet_step (fail) | quiet_step (fail)
                    first | go_big_quiet_step (fail) | quiet_step (fail)
                    first | go_big_quiet_step (fail) | quiet_step (fail)
                    first | go_big_quiet_step (fail) | quiet_step (fail)
                    first | go_big_quiet_step (fail) | quiet_step (fail)
                    first | go_big_quiet_step (fail) | quiet_step (fail)
                    first | go_big_quiet_step (exact Calls.quiet_of_same (q4.out _)) | quiet_step (exact Calls.quiet_of_same (q4.out _))
                    first | go_big_quiet_step (fail) | quiet_step (fail)
                    first | go_big_quiet_step (exact Calls.quiet_of_same (q5.out _)) | quiet_step (exact Calls.quiet_of_same (q5.out _))
                    first | go_big_quiet_step (fail) | quiet_step (fail)
                    first | go_big_quiet_step (fail) | quiet_step (fail)
                    refine wpQuiet_nil ?_
                    intro _ hw'
                    obtain ⟨nq, hw''⟩ := hw'
                    subst hw''
                    go_wp2_with fail
                    refine ⟨⟨k + 1, p2, gt, gr, D', rfl, by go_num, by omega, HDl.out, d8.out.drews _, r8.out.drews _, AP.out, b8.out.trans ((drewsB _ _).mono b8.out.size)⟩, by simp [intOf]; omega⟩
                  · have o1b : (op == 1) = false := by simp [o1]
                    have o2b : (op == 2) = false := by simp [o2]
                    have o3b : (op == 3) = false := by simp [o3]
                    have o4b : (op == 4) = false := by simp [o4]
                    have o5b : (op == 5) = false := by simp [o5]
                    have al := (Below.refl _ wr).alloc (Nat.le_refl _) (.cells #[.int .i64 op, .int .i64 n, .string s] 33)
                    have dF := Hd.out.new al
                    have rF := Hr.out.new al
                    have bF := HB.out.trans (al.mono HB.out.size)
                    have apF := Hap.out
                    clear al Hd Hr HB Hap
                    have HDl : Hid ((id D).lines.length ≤ k + 1) := by
                      show (id D).lines.length ≤ k + 1
                      show D.lines.length ≤ k + 1
                      omega
                    obtain ⟨D', hD'⟩ : ∃ D', (id D) = D' := ⟨_, rfl⟩
                    have hD2 : D = D' := hD'
                    rw [hD'] at HDl
                    rw [hD2] at dF rF
                    have DD := hide dF
                    have RR := hide rF
                    have BB := hide bF
                    have AP := hide apF
                    clear hD' hD2 dF rF bF apF 
                    have hDl2 := HDl.out
                    obtain ⟨N, hN⟩ : ∃ N, D'.lines.length = N := ⟨_, rfl⟩
                    obtain ⟨M, hM⟩ : ∃ M, D'.lasts = M := ⟨_, rfl⟩
                    obtain ⟨Y, hY⟩ : ∃ Y, bytesOf D'.lines = Y := ⟨_, rfl⟩
                    have HN := hide hN
                    have HM := hide hM
                    have HY := hide hY
                    have hNM : M ≤ N := by rw [← hM, ← hN]; exact DD.out.ok.lasts
                    rw [hN] at hDl2
                    clear hN hM hY
                    go_wp2_with fail
                    refine (diskLines_calls _ _ _ _ _ DD.out).mono ?_
                    rintro e w7 ⟨bs, rfl, -, hseq, t7⟩
                    have d7 := hide (DD.out.new t7)
                    have r7 := hide (RR.out.new t7)
                    have b7 := hide (BB.out.trans (t7.mono BB.out.size))
                    clear DD RR BB t7
                    go_wp2_with fail
                    refine (lawLines3_calls _ 70 _ _ hseq (by rw [HN.out]; omega) (by decide)).mono ?_
                    rintro e w8 ⟨va, rfl, ra, t8⟩
                    have d8 := hide (d7.out.new t8)
                    have r8 := hide (r7.out.new t8)
                    have b8 := hide (b7.out.trans (t8.mono b7.out.size))
                    obtain ⟨aa, ca, rfl⟩ := ownsRow_slice ra
                    have i1 := hide (IsStrs.of_row ra)
                    obtain ⟨ar, cr, rc0, rc1, rc2, -, -, rrow, -⟩ := r8.out.open
                    have i2 := hide (IsStrs.of_row rrow)
                    clear d7 r7 b7 t8 hseq ra rrow rc0
                    rw [HN.out] at i1 i2 rc1 ⊢
                    rw [HM.out] at rc2
                    have q1 : Hid (∀ m, Calls Try.prog 23 #[.slice aa N ca, .slice ar N cr] (w8.drewN m) fun e w' => e = .returned (.bool true) ∧ ∃ n, w' = (w8.drewN m).drewN n) := fun m => by
                      have := sameLines3_calls _ _ D'.lines D'.lines (w8.drewN m) (i1.out.below (drewsB _ _)) (i2.out.below (drewsB _ _)) (by rw [HN.out]; omega) (by rw [HN.out]; omega)
                      rwa [decide_eq_true (show D'.lines = D'.lines from rfl)] at this
                    have q2 : Hid (∀ m, Calls Try.prog 24 #[.pointer (some ⟨p, 0, none⟩)] (w8.drewN m) fun e w' => e = .returned (.int .i64 (N : Int)) ∧ w' = w8.drewN m) := fun m => diskLen_to _ _ _ _ _ (by rw [HN.out]) _ (d8.out.drews m)
                    have q3 : Hid (∀ m, Calls Try.prog 25 #[.pointer (some ⟨p, 0, none⟩)] (w8.drewN m) fun e w' => e = .returned (.int .i64 ((N : Int) - (M : Int))) ∧ ∃ n, w' = (w8.drewN m).drewN n) := fun m => diskWaits_to _ _ _ _ _ (by rw [HN.out, HM.out]) _ (d8.out.drews m)
                    have q4 : Hid (∀ m, Calls Try.prog 26 #[.pointer (some ⟨p, 0, none⟩)] (w8.drewN m) fun e w' => e = .returned (.int .i64 (Y : Int)) ∧ w' = w8.drewN m) := fun m => diskUsed_to _ _ _ _ _ (by rw [HY.out]) _ (d8.out.drews m)
                    have q5 : Hid (∀ m, Calls Try.prog 27 #[.pointer (some ⟨q, 0, none⟩)] (w8.drewN m) fun e w' => e = .returned (.int .i64 (Y : Int)) ∧ w' = w8.drewN m) := fun m => by
                      have := refDiskUsed_calls _ _ _ _ _ (r8.out.drews m)
                      rwa [HY.out] at this
                    go_wp2_with fail
                    refine wp_region_quiet_lit (by kernel_rfl) (by kernel_rfl) ?_
                    first | go_big_quiet_step (fail) | quiet_step (fail)
                    first | go_big_quiet_step (fail) | quiet_step (fail)
                    first | go_big_quiet_step (fail) | quiet_step (fail)
                    first | go_big_quiet_step (fail) | quiet_step (fail)
                    first | go_big_quiet_step (fail) | quiet_step (fail)
                    first | go_big_quiet_step (fail) | quiet_step (fail)
                    first | go_big_quiet_step (fail) | quiet_step (fail)
                    first | go_big_quiet_step (fail) | quiet_step (fail)
                    first | go_big_quiet_step (exact Calls.quiet_of (q1.out _)) | quiet_step (exact Calls.quiet_of (q1.out _))
                    first | go_big_quiet_step (fail) | quiet_step (fail)
                    first | go_big_quiet_step (fail) | quiet_step (fail)
                    first | go_big_quiet_step (fail) | quiet_step (fail)
                    first | go_big_quiet_step (fail) | quiet_step (fail)
                    first | go_big_quiet_step (exact Calls.quiet_of_same (q2.out _)) | quiet_step (exact Calls.quiet_of_same (q2.out _))
                    first | go_big_quiet_step (fail) | quiet_step (fail)
                    first | go_big_quiet_step (fail) | quiet_step (fail)
                    first | go_big_quiet_step (fail) | quiet_step (fail)
                    first | go_big_quiet_step (fail) | quiet_step (fail)
                    first | go_big_quiet_step (fail) | quiet_step (fail)
                    first | go_big_quiet_step (fail) | quiet_step (fail)
                    first | go_big_quiet_step (fail) | quiet_step (fail)
                    first | go_big_quiet_step (fail) | quiet_step (fail)
                    first | go_big_quiet_step (fail) | quiet_step (fail)
                    first | go_big_quiet_step (exact Calls.quiet_of (q3.out _)) | quiet_step (exact Calls.quiet_of (q3.out _))
                    first | go_big_quiet_step (fail) | quiet_step (fail)
                    first | go_big_quiet_step (fail) | quiet_step (fail)
                    first | go_big_quiet_step (fail) | quiet_step (fail)
                    first | go_big_quiet_step (fail) | quiet_step (fail)
                    first | go_big_quiet_step (fail) | quiet_step (fail)
                    first | go_big_quiet_step (fail) | quiet_step (fail)
                    first | go_big_quiet_step (fail) | quiet_step (fail)
                    first | go_big_quiet_step (fail) | quiet_step (fail)
                    first | go_big_quiet_step (fail) | quiet_step (fail)
                    first | go_big_quiet_step (fail) | quiet_step (fail)
                    first | go_big_quiet_step (fail) | quiet_step (fail)
                    first | go_big_quiet_step (fail) | quiet_step (fail)
                    first | go_big_quiet_step (fail) | quiet_step (fail)
                    first | go_big_quiet_step (fail) | quiet_step (fail)
                    first | go_big_quiet_step (exact Calls.quiet_of_same (q4.out _)) | quiet_step (exact Calls.quiet_of_same (q4.out _))
                    first | go_big_quiet_step (fail) | quiet_step (fail)
                    first | go_big_quiet_step (exact Calls.quiet_of_same (q5.out _)) | quiet_step (exact Calls.quiet_of_same (q5.out _))
                    first | go_big_quiet_step (fail) | quiet_step (fail)
                    first | go_big_quiet_step (fail) | quiet_step (fail)
                    refine wpQuiet_nil ?_
                    intro _ hw'
                    obtain ⟨nq, hw''⟩ := hw'
                    subst hw''
                    go_wp2_with fail
                    refine ⟨⟨k + 1, p, g, gr, D', rfl, by go_num, by omega, HDl.out, d8.out.drews _, r8.out.drews _, AP.out, b8.out.trans ((drewsB _ _).mono b8.out.size)⟩, by simp [intOf]; omega⟩
        · have hltI : ¬ (k : Int) < (l.length : Int) := by omega
          go_wp2
          go_ret
          exact ⟨rfl, HB.out⟩
    · go_wp2_with fail
      refine (diskNew_bad room w1 hroom).mono ?_
      rintro e w2 ⟨rfl, hw2⟩
      subst hw2
      go_wp2_with fail
      refine (refDiskNew_bad room _ hroom).mono ?_
      rintro e w3 ⟨rfl, hw3⟩
      subst hw3
      go_wp2
      go_ret
      exact ⟨rfl, b1⟩
end Go.Proofs.Ytheaifgoleklpaa
