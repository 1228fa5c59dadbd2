/- The reference's disks: Crash. Own work; no statement. -/
import Derived.Test.YtheaifgoleklpaaRD2
set_option linter.unusedSimpArgs false
set_option linter.unusedVariables false
namespace Go.Proofs.Ytheaifgoleklpaa
open Go.RowKit Go.Shelf

set_option maxRecDepth 100000 in
set_option maxHeartbeats 4000000 in
theorem refDiskCrash_calls (B p : Nat) (g : Option Nat) (D : DiskD) (keep : Int) (w : World) (hd : IsRD w B p g D) (hB : B ≤ w.heap.size) (hk0 : -9223372036854775808 ≤ keep) (hk1 : keep ≤ 9223372036854775807) :
    Calls Try.prog 17 #[.pointer (some ⟨p, 0, none⟩), .int .i64 keep] w fun e w' => e = .returned (.tuple #[]) ∧ ∃ g', IsRD w' B p g' (crashD D keep) ∧ Touch (onDisk p g) w w' ∧ (∀ k, g' = some k → g = some k ∨ w.heap.size ≤ k) := by
  obtain ⟨i0, hi0, hz0, hz1, hz2⟩ := info_parts Try.info9
  have hl := hd.len
  have hlast := hd.ok.lasts
  have Hd := hide hd
  have HB := hide hB
  obtain ⟨a, cap, c0, c1, c2, hf, -, hrow, hp⟩ := hd.open
  have Hrow := hide hrow
  have hplt := ltAt hp
  have f1 := hf 1
  have f2 := hf 2
  have hstart : CrashAt D keep D.lasts keep := ⟨by omega, .inl (by omega), by simp [wholeN]⟩
  obtain ⟨D', hD'⟩ : ∃ D', crashD D keep = D' := ⟨_, rfl⟩
  rw [hD']
  have HD := hide hD'
  clear hd hB hf hrow hp c0 hD'
  go_enter Try.func17, Try.ntmps17
  go_wp2_with fail
  go_loop [1, 4] (fun x n => ∃ (k : Nat) (left : Int), x = .int .i64 left ∧ n = .int .i64 (k : Int) ∧ D.lasts ≤ k ∧ k ≤ D.lines.length ∧ CrashAt D keep k left) (fun _ n => D.lines.length - (intOf n).toNat)
  case atStart => exact ⟨D.lasts, keep, rfl, rfl, Nat.le_refl _, hlast, hstart⟩
  case round =>
    clear hstart
    obtain ⟨k, left, rfl, rfl, hk, hkl, hat⟩ := hrel
    have hat1 := hat.1
    have hat2 := hat.2.1
    have A := hide hat
    clear hat
    have hcr : ∀ h : wholeN D keep = k, crashD D keep = ⟨D.room, D.lines.take k, k⟩ := fun h => by unfold crashD; rw [h]
    by_cases hlt : k < D.lines.length
    · have hltI : (k : Int) < (D.lines.length : Int) := by omega
      obtain ⟨b, rfl, hc⟩ := strs_cell Hrow.out k hlt
      have hsz := bytesOf_mem (List.getElem_mem hlt)
      by_cases hs : (D.lines[k].size : Int) + 1 ≤ left
      · have A2 := hide (crashAt_step A.out hk hlt hs)
        obtain ⟨s, hse⟩ : ∃ s, D.lines[k] = s := ⟨_, rfl⟩
        rw [hse] at hc hs A2 hsz
        clear hse hcr
        go_wp2_with fail
        refine ⟨⟨k + 1, left - ((s.size : Int) + 1), ?_, by go_num, by omega, by omega, A2.out⟩, by simp [intOf]; omega⟩
        congr 1
        omega
      · have A2 := crashAt_stop A.out hk hlt hs
        obtain rfl : D' = ⟨D.room, D.lines.take k, k⟩ := by rw [← HD.out]; exact hcr A2
        obtain ⟨s, hse⟩ : ∃ s, D.lines[k] = s := ⟨_, rfl⟩
        rw [hse] at hc hs hsz
        have hm : k ≤ D.lines.length := hkl
        clear hse hcr A A2
        have hrow0 : (w.alloc (.cells #[] 9)).ownsRow w.heap.size 9 1 (.slice (some ⟨w.heap.size, 0, none⟩) 0 0) 0 [] := World.ownsRow_lit w #[] 0 (Nat.le_refl _) (by unfold maxLen; omega) rfl
        have hcl : D.lines.length ≤ cap := by
          rcases Hrow.out.2 with ⟨e, h00⟩ | ⟨g', cap', cur, e, _, _, h3, _⟩
          · simp at e
          · simp only [Value.slice.injEq] at e
            omega
        have hsrc : Src (w.alloc (.cells #[] 9)) (.slice (some ⟨b, 0, none⟩) k cap) k ((D.lines.take k).map Value.string) :=
          src_strs Hrow.out hm (by simp) ((Below.refl _ w).alloc (Nat.le_refl _) _)
        have d1 := fun o => Lib.cell?_alloc_some o c1
        have hMc : ((D.lines.take k).map Value.string).length = k * 1 := by simp; omega
        go_wp2_with (at_builtin; refine wpList_append_src rfl _ _ 40 rfl w.heap.size 9 i0 (.string ⟨#[]⟩) 1 16 Try.underlying40 hi0 hz0 hz1 hz2 rfl (by decide) _ _ _ rfl hrow0 _ k _ rfl hsrc hMc (by intro u hu; obtain ⟨x, _, rfl⟩ := List.mem_map.1 hu; rfl) (by unfold maxLen; omega) (by omega) (by simp) ?_)
        intro v1 w1 hown1 hgrow1
        have hown1' : w1.ownsRow w.heap.size 9 1 v1 k ((D.lines.take k).map Value.string) := by simpa using hown1
        clear hown1
        have hb1 : Below w.heap.size w w1 := ((Below.refl _ w).alloc (Nat.le_refl _) _).grown hgrow1 (by simp) (fun j hj => (hrow0.lt j hj).1)
        have e1 := (hb1.cell (p := ⟨p, 1, none⟩) hplt).trans c1
        have l1 : w1.frozen? ⟨p, 1, none⟩ = false := (hb1.frozen (p := ⟨p, 1, none⟩) hplt).trans f1
        have e2 : w1.cell? ⟨p, 2, none⟩ = some (.int .i64 (D.lasts : Int)) := (hb1.cell (p := ⟨p, 2, none⟩) hplt).trans c2
        have l2 : w1.frozen? ⟨p, 2, none⟩ = false := (hb1.frozen (p := ⟨p, 2, none⟩) hplt).trans f2
        obtain ⟨a2, cap2, rfl⟩ := ownsRow_slice hown1'
        have hlt : (D.lines.take k).length = k := by simp; omega
        have hrs : w1.ownsRow w.heap.size 9 1 (.slice a2 k cap2) (D.lines.take k).length ((D.lines.take k).map Value.string) := by rw [hlt]; exact hown1'
        obtain ⟨I, T, G⟩ := rd_put (n := k) Hd.out HB.out hb1 hrs (by omega) (by have := Hd.out.ok.fits; have := bytesOf_take_le D.lines k; omega)
        obtain ⟨W1, hW1⟩ : ∃ W1, w1.setCell ⟨p, 1, none⟩ (.slice a2 k cap2) = W1 := ⟨_, rfl⟩
        rw [hW1] at I T
        have II := hide I
        have TT := hide T
        have GG := hide G
        have q2 : W1.cell? ⟨p, 2, none⟩ = some (.int .i64 (D.lasts : Int)) := by rw [← hW1]; exact (World.cell?_setCell_other _ _ _ _ (by simp)).trans e2
        have m2 : W1.frozen? ⟨p, 2, none⟩ = false := by rw [← hW1, World.frozen?_setCell]; exact l2
        clear I T G hrs hown1' hgrow1 hsrc hrow0 d1
        go_wp2_with fail
        go_end0
        exact ⟨rfl, _, II.out, TT.out, GG.out⟩
    · have hltI : ¬ (k : Int) < (D.lines.length : Int) := by omega
      obtain rfl : k = D.lines.length := by omega
      obtain rfl : D' = ⟨D.room, D.lines.take D.lines.length, D.lines.length⟩ := by rw [← HD.out]; exact hcr (crashAt_end A.out hlast)
      have hm : D.lines.length ≤ D.lines.length := hkl
      clear hcr A
      have hrow0 : (w.alloc (.cells #[] 9)).ownsRow w.heap.size 9 1 (.slice (some ⟨w.heap.size, 0, none⟩) 0 0) 0 [] := World.ownsRow_lit w #[] 0 (Nat.le_refl _) (by unfold maxLen; omega) rfl
      cases a with
      | none =>
        rcases Hrow.out.2 with ⟨e, h00⟩ | ⟨g', cap', cur, e, _⟩
        · simp only [Value.slice.injEq, true_and] at e
          obtain ⟨hl0, rfl⟩ := e
          have hk0' : D.lines.length = 0 := hl0
          have hln : D.lines = [] := List.eq_nil_of_length_eq_zero hl0
          have hsrc : Src (w.alloc (.cells #[] 9)) (.slice none 0 0) 0 ((D.lines.take 0).map Value.string) := .inl ⟨rfl, rfl, rfl⟩
          rw [hl0] at c1
          have d1 := fun o => Lib.cell?_alloc_some o c1
          have hMc : ((D.lines.take 0).map Value.string).length = 0 * 1 := by simp
          go_wp2_with (at_builtin; refine wpList_append_src rfl _ _ 40 rfl w.heap.size 9 i0 (.string ⟨#[]⟩) 1 16 Try.underlying40 hi0 hz0 hz1 hz2 rfl (by decide) _ _ _ rfl hrow0 _ 0 _ rfl hsrc hMc (by intro u hu; obtain ⟨x, _, rfl⟩ := List.mem_map.1 hu; rfl) (by unfold maxLen; omega) (by omega) (by simp) ?_)
          intro v1 w1 hown1 hgrow1
          have hown1' : w1.ownsRow w.heap.size 9 1 v1 0 ((D.lines.take 0).map Value.string) := by simpa using hown1
          clear hown1
          have hb1 : Below w.heap.size w w1 := ((Below.refl _ w).alloc (Nat.le_refl _) _).grown hgrow1 (by simp) (fun j hj => (hrow0.lt j hj).1)
          have e1 := (hb1.cell (p := ⟨p, 1, none⟩) hplt).trans c1
          have l1 : w1.frozen? ⟨p, 1, none⟩ = false := (hb1.frozen (p := ⟨p, 1, none⟩) hplt).trans f1
          have e2 : w1.cell? ⟨p, 2, none⟩ = some (.int .i64 (D.lasts : Int)) := (hb1.cell (p := ⟨p, 2, none⟩) hplt).trans c2
          have l2 : w1.frozen? ⟨p, 2, none⟩ = false := (hb1.frozen (p := ⟨p, 2, none⟩) hplt).trans f2
          obtain ⟨a2, cap2, rfl⟩ := ownsRow_slice hown1'
          have hlt : (D.lines.take 0).length = 0 := by simp
          have hrs : w1.ownsRow w.heap.size 9 1 (.slice a2 0 cap2) (D.lines.take 0).length ((D.lines.take 0).map Value.string) := by rw [hlt]; exact hown1'
          obtain ⟨I, T, G⟩ := rd_put (n := 0) Hd.out HB.out hb1 hrs (by omega) (by have := Hd.out.ok.fits; have := bytesOf_take_le D.lines 0; omega)
          obtain ⟨W1, hW1⟩ : ∃ W1, w1.setCell ⟨p, 1, none⟩ (.slice a2 0 cap2) = W1 := ⟨_, rfl⟩
          rw [hW1] at I T
          have II := hide I
          have TT := hide T
          have GG := hide G
          have q2 : W1.cell? ⟨p, 2, none⟩ = some (.int .i64 (D.lasts : Int)) := by rw [← hW1]; exact (World.cell?_setCell_other _ _ _ _ (by simp)).trans e2
          have m2 : W1.frozen? ⟨p, 2, none⟩ = false := by rw [← hW1, World.frozen?_setCell]; exact l2
          clear I T G hrs hown1' hgrow1 hsrc hrow0 d1
          go_wp2_with fail
          go_end0
          exact ⟨rfl, _, by have := II.out; rw [hl0]; exact this, TT.out, GG.out⟩
        · simp at e
      | some ad =>
        have hcl : D.lines.length ≤ cap := by
          rcases Hrow.out.2 with ⟨e, h00⟩ | ⟨g', cap', cur, e, _, _, h3, _⟩
          · simp at e
          · simp only [Value.slice.injEq] at e
            omega
        have hadd : ad = ⟨ad.block, 0, none⟩ := by
          rcases Hrow.out.2 with ⟨e, h00⟩ | ⟨g', cap', cur, e, _⟩
          · simp at e
          · simp only [Value.slice.injEq, Option.some.injEq] at e
            rw [e.1]
        obtain ⟨gb, hgb⟩ : ∃ gb, ad.block = gb := ⟨_, rfl⟩
        rw [hgb] at hadd
        subst hadd
        have hsrc : Src (w.alloc (.cells #[] 9)) (.slice (some ⟨gb, 0, none⟩) D.lines.length cap) D.lines.length ((D.lines.take D.lines.length).map Value.string) :=
          src_strs Hrow.out hm (by simp) ((Below.refl _ w).alloc (Nat.le_refl _) _)
        have d1 := fun o => Lib.cell?_alloc_some o c1
        have hMc : ((D.lines.take D.lines.length).map Value.string).length = D.lines.length * 1 := by simp
        go_wp2_with (at_builtin; refine wpList_append_src rfl _ _ 40 rfl w.heap.size 9 i0 (.string ⟨#[]⟩) 1 16 Try.underlying40 hi0 hz0 hz1 hz2 rfl (by decide) _ _ _ rfl hrow0 _ D.lines.length _ rfl hsrc hMc (by intro u hu; obtain ⟨x, _, rfl⟩ := List.mem_map.1 hu; rfl) (by unfold maxLen; omega) (by omega) (by simp) ?_)
        intro v1 w1 hown1 hgrow1
        have hown1' : w1.ownsRow w.heap.size 9 1 v1 D.lines.length ((D.lines.take D.lines.length).map Value.string) := by simpa using hown1
        clear hown1
        have hb1 : Below w.heap.size w w1 := ((Below.refl _ w).alloc (Nat.le_refl _) _).grown hgrow1 (by simp) (fun j hj => (hrow0.lt j hj).1)
        have e1 := (hb1.cell (p := ⟨p, 1, none⟩) hplt).trans c1
        have l1 : w1.frozen? ⟨p, 1, none⟩ = false := (hb1.frozen (p := ⟨p, 1, none⟩) hplt).trans f1
        have e2 : w1.cell? ⟨p, 2, none⟩ = some (.int .i64 (D.lasts : Int)) := (hb1.cell (p := ⟨p, 2, none⟩) hplt).trans c2
        have l2 : w1.frozen? ⟨p, 2, none⟩ = false := (hb1.frozen (p := ⟨p, 2, none⟩) hplt).trans f2
        obtain ⟨a2, cap2, rfl⟩ := ownsRow_slice hown1'
        have hlt : (D.lines.take D.lines.length).length = D.lines.length := by simp
        have hrs : w1.ownsRow w.heap.size 9 1 (.slice a2 D.lines.length cap2) (D.lines.take D.lines.length).length ((D.lines.take D.lines.length).map Value.string) := by rw [hlt]; exact hown1'
        obtain ⟨I, T, G⟩ := rd_put (n := D.lines.length) Hd.out HB.out hb1 hrs (by omega) (by have := Hd.out.ok.fits; have := bytesOf_take_le D.lines D.lines.length; omega)
        obtain ⟨W1, hW1⟩ : ∃ W1, w1.setCell ⟨p, 1, none⟩ (.slice a2 D.lines.length cap2) = W1 := ⟨_, rfl⟩
        rw [hW1] at I T
        have II := hide I
        have TT := hide T
        have GG := hide G
        have q2 : W1.cell? ⟨p, 2, none⟩ = some (.int .i64 (D.lasts : Int)) := by rw [← hW1]; exact (World.cell?_setCell_other _ _ _ _ (by simp)).trans e2
        have m2 : W1.frozen? ⟨p, 2, none⟩ = false := by rw [← hW1, World.frozen?_setCell]; exact l2
        clear I T G hrs hown1' hgrow1 hsrc hrow0 d1
        go_wp2_with fail
        go_end0
        exact ⟨rfl, _, II.out, TT.out, GG.out⟩
end Go.Proofs.Ytheaifgoleklpaa
