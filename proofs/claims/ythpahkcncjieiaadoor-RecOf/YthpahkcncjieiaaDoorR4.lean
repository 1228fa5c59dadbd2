/- A region whose operations read, and whose callees make memory of their own: one walk of the text's order serves every order. rec's Text. Own work; no statement. -/
import Derived.Test.YthpahkcncjieiaaDoorR3
import Derived.Laws.Concat
import Derived.Lib.QuietBelow
set_option linter.unusedSimpArgs false
set_option linter.unusedVariables false
namespace Go.Proofs.YthpahkcncjieiaaDoor
open Go.RowKit Go.Sort

theorem app_bytes (a b : List UInt8) : (⟨a.toArray⟩ : ByteArray) ++ ⟨b.toArray⟩ = ⟨(a ++ b).toArray⟩ := by
  apply ByteArray.ext
  simp [ByteArray.data_append]

set_option maxHeartbeats 400000 in
theorem itoa_calls (n : Int) (w : World) (h0 : -9223372036854775808 ≤ n) (h1 : n ≤ 9223372036854775807) (hp : Pow w) :
    Calls Tryd.prog 19 #[.int .i64 n] w fun e w' => e = .returned (.string ⟨(Lib.itoa n).toArray⟩) ∧ Below w.heap.size w w' :=
  (Tryd.strconv_Itoa n h0 h1 w (hp w (Below.refl _ _))).mono fun _ _ ⟨he, k, os, hw⟩ => ⟨he, hw ▸ Lib.below_grow _ _ (Nat.le_refl _) k os⟩

theorem textL_length {l : List Int} (h : InR l) : (textL l).length ≤ 22 * l.length + 2 := by
  have h1 := numsTo_length h (writtenL l)
  have h2 := writtenL_le l
  unfold textL
  simp
  omega

/-- A record in words. -/
def textR (r : RecD) : ByteArray := (⟨(Lib.itoa r.site).toArray⟩ : ByteArray) ++ ⟨#[58]⟩ ++ ⟨(Lib.itoa r.seq).toArray⟩ ++ ⟨#[32]⟩ ++ ⟨(textL r.dep).toArray⟩ ++ ⟨#[32]⟩ ++ r.key ++ ⟨#[61]⟩ ++ r.val

set_option maxHeartbeats 4000000 in
set_option maxRecDepth 100000 in
theorem recText_calls (v : Value) (r : RecD) (w : World) (hv : IsRec w v r) (hs0 : -9223372036854775808 ≤ r.site) (hs1 : r.site ≤ 9223372036854775807) (hq0 : -9223372036854775808 ≤ r.seq) (hq1 : r.seq ≤ 9223372036854775807) (hl : r.dep.length ≤ 4294967296) (hr : InR r.dep) (hks : r.key.size ≤ 1099511627776) (hvs : r.val.size ≤ 1099511627776) (hp : Pow w) :
    Calls Tryd.prog 9 #[v] w fun e w' => e = .returned (.string (textR r)) ∧ Below w.heap.size w w' := by
  obtain ⟨site, seq, dep, key, val⟩ := r
  obtain ⟨a, cap, rfl, hn⟩ := hv
  dsimp only at *
  unfold textR
  dsimp only
  have l1 := Lib.itoa_length_le site hs0 hs1
  have l2 := Lib.itoa_length_le seq hq0 hq1
  have l3 := textL_length hr
  have HB := box_below w (.cells #[.int .i64 site, .int .i64 seq, .slice a dep.length cap, .string key, .string val] 30)
  obtain ⟨W1, hW1⟩ : ∃ W1, w.alloc (.cells #[.int .i64 site, .int .i64 seq, .slice a dep.length cap, .string key, .string val] 30) = W1 := ⟨_, rfl⟩
  rw [hW1] at HB
  have k0 := cell_regrown (show W1.cell? ⟨w.heap.size, 0, none⟩ = some (.int .i64 site) by rw [← hW1, World.cell?_alloc_at _ _ _ _ rfl]; rfl)
  have k1 := cell_regrown (show W1.cell? ⟨w.heap.size, 1, none⟩ = some (.int .i64 seq) by rw [← hW1, World.cell?_alloc_at _ _ _ _ rfl]; rfl)
  have k2 := cell_regrown (show W1.cell? ⟨w.heap.size, 2, none⟩ = some (.slice a dep.length cap) by rw [← hW1, World.cell?_alloc_at _ _ _ _ rfl]; rfl)
  have k3 := cell_regrown (show W1.cell? ⟨w.heap.size, 3, none⟩ = some (.string key) by rw [← hW1, World.cell?_alloc_at _ _ _ _ rfl]; rfl)
  have k4 := cell_regrown (show W1.cell? ⟨w.heap.size, 4, none⟩ = some (.string val) by rw [← hW1, World.cell?_alloc_at _ _ _ _ rfl]; rfl)
  have q1 := hide (fun d os => Calls.regrown_of (itoa_calls site (grow (redrawn W1 d) os) hs0 hs1 ((hp.below HB).below (below_regrown W1 d os))))
  have q2 := hide (fun d os => Calls.regrown_of (itoa_calls seq (grow (redrawn W1 d) os) hq0 hq1 ((hp.below HB).below (below_regrown W1 d os))))
  have q3 := hide (fun d os => Calls.regrown_of (text_calls _ dep (grow (redrawn W1 d) os) ((hn.below HB).below (below_regrown W1 d os)) hl hr ((hp.below HB).below (below_regrown W1 d os))))
  have z1 : (⟨(Lib.itoa site).toArray⟩ : ByteArray).size ≤ 21 := by simpa [ByteArray.size] using l1
  have z2 : (⟨(Lib.itoa seq).toArray⟩ : ByteArray).size ≤ 21 := by simpa [ByteArray.size] using l2
  have z3 : (⟨(textL dep).toArray⟩ : ByteArray).size ≤ 22 * dep.length + 2 := by simpa [ByteArray.size] using l3
  generalize (⟨(Lib.itoa site).toArray⟩ : ByteArray) = S1 at *
  generalize (⟨(Lib.itoa seq).toArray⟩ : ByteArray) = S2 at *
  generalize (⟨(textL dep).toArray⟩ : ByteArray) = S3 at *
  have n1 : ¬ 9223372036854775807 < S1.size + 1 := by omega
  have n2 : ¬ 9223372036854775807 < S1.size + 1 + S2.size := by omega
  have n3 : ¬ 9223372036854775807 < S1.size + 1 + S2.size + 1 := by omega
  have n4 : ¬ 9223372036854775807 < S1.size + 1 + S2.size + 1 + S3.size := by omega
  have n5 : ¬ 9223372036854775807 < S1.size + 1 + S2.size + 1 + S3.size + 1 := by omega
  have n6 : ¬ 9223372036854775807 < S1.size + 1 + S2.size + 1 + S3.size + 1 + key.size := by omega
  have n7 : ¬ 9223372036854775807 < S1.size + 1 + S2.size + 1 + S3.size + 1 + key.size + 1 := by omega
  have n8 : ¬ 9223372036854775807 < S1.size + 1 + S2.size + 1 + S3.size + 1 + key.size + 1 + val.size := by omega
  have HW := hide hW1
  clear hW1 hn hp hr l1 l2 l3
  go_enter Tryd.func9, Tryd.ntmps9
  go_wp2
  rw [HW.out]
  refine wp_region_quiet_below (by kernel_rfl) (by kernel_rfl) ?_
  repeat (quiet_step (first | exact q1.out _ _ | exact q2.out _ _ | exact q3.out _ _))
  refine wpQuiet_nil ?_
  intro _ hw'
  obtain ⟨⟨dq, osq⟩, hw''⟩ := hw'
  subst hw''
  go_wp2
  go_ret
  exact ⟨rfl, HB.trans ((below_regrown W1 dq osq).mono HB.size)⟩

end Go.Proofs.YthpahkcncjieiaaDoor
