/- The reference's RecText. Own work; no statement. -/
import Derived.Test.YtepadjcmmkglfabDoorRefC2
set_option linter.unusedSimpArgs false
set_option linter.unusedVariables false
namespace Go.Proofs.YtepadjcmmkglfabDoor
open Go.RowKit Go.Sort

set_option maxHeartbeats 1500000 in
set_option maxRecDepth 100000 in
theorem refRecText_calls (v : Value) (r : RecD) (w : World) (hv : IsRec w v r) (hs0 : -9223372036854775808 ≤ r.site) (hs1 : r.site ≤ 9223372036854775807) (hq0 : -9223372036854775808 ≤ r.seq) (hq1 : r.seq ≤ 9223372036854775807) (hl : r.dep.length ≤ 1048576) (hr : InR r.dep) (hks : r.key.size ≤ 1099511627776) (hvs : r.val.size ≤ 1099511627776) :
    Calls Tryd.prog 23 #[v] w fun e w' => e = .returned (.string (textR r)) ∧ Below w.heap.size w w' := by
  obtain ⟨site, seq, dep, key, val⟩ := r
  obtain ⟨a, cap, rfl, hn⟩ := hv
  dsimp only at *
  unfold textR
  dsimp only
  have l1 := Lib.itoa_length_le site hs0 hs1
  have l2 := Lib.itoa_length_le seq hq0 hq1
  have l3 := textL_length hr
  have HB := box_below w (.cells #[.int .i64 site, .int .i64 seq, .slice a dep.length cap, .string key, .string val] 43)
  obtain ⟨W1, hW1⟩ : ∃ W1, w.alloc (.cells #[.int .i64 site, .int .i64 seq, .slice a dep.length cap, .string key, .string val] 43) = W1 := ⟨_, rfl⟩
  rw [hW1] at HB
  have k0 := cell_regrown (show W1.cell? ⟨w.heap.size, 0, none⟩ = some (.int .i64 site) by rw [← hW1, World.cell?_alloc_at _ _ _ _ rfl]; rfl)
  have k1 := cell_regrown (show W1.cell? ⟨w.heap.size, 1, none⟩ = some (.int .i64 seq) by rw [← hW1, World.cell?_alloc_at _ _ _ _ rfl]; rfl)
  have k2 := cell_regrown (show W1.cell? ⟨w.heap.size, 2, none⟩ = some (.slice a dep.length cap) by rw [← hW1, World.cell?_alloc_at _ _ _ _ rfl]; rfl)
  have k3 := cell_regrown (show W1.cell? ⟨w.heap.size, 3, none⟩ = some (.string key) by rw [← hW1, World.cell?_alloc_at _ _ _ _ rfl]; rfl)
  have k4 := cell_regrown (show W1.cell? ⟨w.heap.size, 4, none⟩ = some (.string val) by rw [← hW1, World.cell?_alloc_at _ _ _ _ rfl]; rfl)
  have q1 := hide (fun d os => Calls.regrown_of (refDecimal_calls site (grow (redrawn W1 d) os) hs0 hs1))
  have q2 := hide (fun d os => Calls.regrown_of (refDecimal_calls seq (grow (redrawn W1 d) os) hq0 hq1))
  have q3 := hide (fun d os => Calls.regrown_of (refText_calls _ dep (grow (redrawn W1 d) os) ((hn.below HB).below (below_regrown W1 d os)) hl hr))
  have z1 : (⟨(Lib.itoa site).toArray⟩ : ByteArray).size ≤ 21 := by simpa [ByteArray.size] using l1
  have z2 : (⟨(Lib.itoa seq).toArray⟩ : ByteArray).size ≤ 21 := by simpa [ByteArray.size] using l2
  have z3 : (⟨(textL dep).toArray⟩ : ByteArray).size ≤ 22 * dep.length + 2 := by simpa [ByteArray.size] using l3
  generalize (⟨(Lib.itoa site).toArray⟩ : ByteArray) = S1 at *
  generalize (⟨(Lib.itoa seq).toArray⟩ : ByteArray) = S2 at *
  generalize (⟨(textL dep).toArray⟩ : ByteArray) = S3 at *
  have n1 : ¬ 9223372036854775807 < S1.size + 1 := by omega
  have n2 : ¬ 9223372036854775807 < S1.size + 1 + S2.size := by omega
  have n3 : ¬ 9223372036854775807 < S1.size + 1 + S2.size + 1 := by omega
  have n4 : ¬ 9223372036854775807 < S1.size + 1 + S2.size + 1 + S3.size := by omega
  have n5 : ¬ 9223372036854775807 < S1.size + 1 + S2.size + 1 + S3.size + 1 := by omega
  have n6 : ¬ 9223372036854775807 < S1.size + 1 + S2.size + 1 + S3.size + 1 + key.size := by omega
  have n7 : ¬ 9223372036854775807 < S1.size + 1 + S2.size + 1 + S3.size + 1 + key.size + 1 := by omega
  have n8 : ¬ 9223372036854775807 < S1.size + 1 + S2.size + 1 + S3.size + 1 + key.size + 1 + val.size := by omega
  have HW := hide hW1
  clear hW1 hn hr l1 l2 l3
  go_enter Tryd.func23, Tryd.ntmps23
  go_wp2
  rw [HW.out]
  refine wp_region_quiet_below (by kernel_rfl) (by kernel_rfl) ?_
  first | go_big_quiet_step (fail) | quiet_step (fail)
  first | go_big_quiet_step (fail) | quiet_step (fail)
  first | go_big_quiet_step (exact q1.out _ _) | quiet_step (exact q1.out _ _)
  first | go_big_quiet_step (fail) | quiet_step (fail)
  first | go_big_quiet_step (fail) | quiet_step (fail)
  first | go_big_quiet_step (fail) | quiet_step (fail)
  first | go_big_quiet_step (exact q2.out _ _) | quiet_step (exact q2.out _ _)
  first | go_big_quiet_step (fail) | quiet_step (fail)
  first | go_big_quiet_step (fail) | quiet_step (fail)
  first | go_big_quiet_step (fail) | quiet_step (fail)
  first | go_big_quiet_step (fail) | quiet_step (fail)
  first | go_big_quiet_step (exact q3.out _ _) | quiet_step (exact q3.out _ _)
  first | go_big_quiet_step (fail) | quiet_step (fail)
  first | go_big_quiet_step (fail) | quiet_step (fail)
  first | go_big_quiet_step (fail) | quiet_step (fail)
  first | go_big_quiet_step (fail) | quiet_step (fail)
  first | go_big_quiet_step (fail) | quiet_step (fail)
  first | go_big_quiet_step (fail) | quiet_step (fail)
  first | go_big_quiet_step (fail) | quiet_step (fail)
  first | go_big_quiet_step (fail) | quiet_step (fail)
  first | go_big_quiet_step (fail) | quiet_step (fail)
  first | go_big_quiet_step (fail) | quiet_step (fail)
  refine wpQuiet_nil ?_
  intro _ hw'
  obtain ⟨⟨dq, osq⟩, hw''⟩ := hw'
  subst hw''
  go_wp2
  go_ret
  exact ⟨rfl, HB.trans ((below_regrown W1 dq osq).mono HB.size)⟩

end Go.Proofs.YtepadjcmmkglfabDoor
