/- Own work: the parts RS8, RefR, RS9, RS10, FrameP, FrameS, WSegLines of the proof, laid together. -/
import Derived.Test.YtncmocmmkbmmjaaGreatDoorPartSegLines17
import Derived.Test.YtncmocmmkbmmjaaGreatDoorPartSegLines6
import Derived.Test.YtncmocmmkbmmjaaGreatDoorPartSegLines5
import Derived.Test.YtncmocmmkbmmjaaGreatDoorPartSegLines14
import Derived.Test.YtncmocmmkbmmjaaGreatDoorPartSegLines1
import Derived.ProofKit
import Derived.OpenShut
import Derived.ShutString
import Derived.ChangeOld
import Derived.Deep.DeepHandedRow
import Derived.Test.YtncmocmmkbmmjaaGreatDoorPartSegLines10
import Derived.Deep.Fields
import Derived.Deep.Slices
import Derived.Lib.SmallJoins
/- The reference's segments: a disk opened. Own work; no statement. -/
set_option linter.unusedSimpArgs false
set_option linter.unusedVariables false
namespace Go.Proofs.YtncmocmmkbmmjaaGreatDoor
open Go.RowKit Go.Shelf Go.Sort

theorem openAt_line {D : DiskD} {k : Nat} {S : SegD} (h : OpenAt D k S) (hk : k < D.lines.length) (hb : lineB S (D.lines[k]).data.toList = true) : OpenAt D (k + 1) (lineS S (D.lines[k]).data.toList k) := by
  unfold lineB at hb
  unfold lineS
  cases hP : parseE (D.lines[k]).data.toList with
  | none => rw [hP] at hb; cases hb
  | some e =>
    rw [hP] at hb
    dsimp only at hb ⊢
    rw [if_pos hb]
    exact openAt_step h hk hP hb
theorem openAt_lineNot {D : DiskD} {k : Nat} {S : SegD} (h : OpenAt D k S) (hk : k < D.lines.length) (hb : lineB S (D.lines[k]).data.toList = false) : runE (emptyS D) D.lines 0 = (S, k) ∧ lineS S (D.lines[k]).data.toList k = S := by
  unfold lineB at hb
  unfold lineS
  cases hP : parseE (D.lines[k]).data.toList with
  | none => exact ⟨openAt_none h hk hP, rfl⟩
  | some e =>
    rw [hP] at hb
    dsimp only at hb ⊢
    rw [if_neg (by rw [hb]; decide)]
    exact ⟨openAt_not h hk hP hb, rfl⟩

theorem IsRS.empty {w w' : World} {q : Nat} {D : DiskD} (h : w'.heap[w.heap.size]? = some (.cells #[ptrV q, .slice none 0 0, .int .i64 0, .int .i64 0] 91 (0, 0))) : IsRS w' w.heap.size w.heap.size q (emptyS D) :=
  ⟨emptyS_ok D, Nat.zero_le _, Nat.le_refl _, _, [], rfl, h, World.ownsRow_nil _ _ _ _, fun s hs => (by cases hs)⟩

theorem IsRD.types {w : World} {B q : Nat} {g : Option Nat} {D : DiskD} (h : IsRD w B q g D) {k : Nat} (hk : onDisk q g k) : ∃ c t, w.heap[k]? = some (.cells c t (0, 0)) ∧ (t = 46 ∨ t = 9) := by
  obtain ⟨v, hv, hp, hr⟩ := h.val
  rcases hk with rfl | e
  · exact ⟨_, _, hp, .inl rfl⟩
  · rw [← hv] at e
    rcases hr.2 with ⟨rfl, _⟩ | ⟨g', cap, cur, rfl, _, hg, _⟩
    · cases e
    · obtain rfl : g' = k := by simpa [Value.ownBlock] using e
      exact ⟨_, _, hg, .inr rfl⟩
theorem IsRS.disk_goes {w w' : World} {B p q q' : Nat} {S : SegD} {B' : Nat} {g : Option Nat} {D : DiskD} (h : IsRS w B p q S) (hd : IsRD w B' q' g D) (t : Touch (onDisk q' g) w w') : IsRS w' B p q S :=
  h.touch t fun k c ty f hk e => by
    obtain ⟨c', t', e', ht⟩ := hd.types hk
    rw [e] at e'
    cases e'
    rcases ht with rfl | rfl <;> exact ⟨by decide, by decide, by decide⟩
theorem IsRS.setD {w : World} {B p q : Nat} {S : SegD} (h : IsRS w B p q S) (D : DiskD) (hD : S.slots.length ≤ D.lines.length) : IsRS w B p q { S with D := D } :=
  ⟨⟨h.ok.rising, h.ok.each, h.ok.sealed0, h.ok.sealed1, h.ok.trim0, h.ok.trim1, hD⟩, h.few, h.low, h.val⟩

set_option maxHeartbeats 4000000 in
set_option maxRecDepth 100000 in
theorem refOpen_calls (B q : Nat) (g : Option Nat) (D : DiskD) (w : World) (hd : IsRD w B q g D) (hB : B ≤ w.heap.size) :
    Calls Tryz.prog 13 #[.pointer (some ⟨q, 0, none⟩)] w fun e w' => e = .returned (.pointer (some ⟨w.heap.size, 0, none⟩)) ∧ IsRS w' w.heap.size w.heap.size q (openS D) ∧ (∃ g', IsRD w' B q g' (openD D (runE (emptyS D) D.lines 0).2) ∧ (∀ k, g' = some k → g = some k ∨ w.heap.size ≤ k)) ∧ Touch (onDisk q g) w w' := by
  obtain ⟨W0, hW0⟩ : ∃ W0, w.alloc (.cells #[ptrV q, .slice none 0 0, .int .i64 0, .int .i64 0] 91) = W0 := ⟨_, rfl⟩
  have HB0 : Below w.heap.size w W0 := by rw [← hW0]; exact (Below.refl _ w).alloc (Nat.le_refl _) _
  have i0 : IsRS W0 w.heap.size w.heap.size q (emptyS D) := IsRS.empty (by rw [← hW0]; exact World.alloc_heap_new w _)
  have hl := hd.len
  have Hd := hide hd
  have HW := hide hW0
  clear hW0 hd
  go_enter Tryz.func13, Tryz.ntmps13
  go_wp2_with fail
  rw [show w.alloc (.cells #[.pointer (some ⟨q, 0, none⟩), .slice none 0 0, .int .i64 0, .int .i64 0] 91) = W0 from HW.out]
  go_loopw [4] (fun kv wr => ∃ (k : Nat) (S : SegD), kv = .int .i64 (k : Int) ∧ k ≤ D.lines.length ∧ OpenAt D k S ∧ IsRS wr w.heap.size w.heap.size q S ∧ Below w.heap.size w wr) (fun kv _ => D.lines.length - (intOf kv).toNat)
  case atStart => exact ⟨0, _, rfl, Nat.zero_le _, openAt_start D, i0, HB0⟩
  case round =>
    obtain ⟨k, S, rfl, hk, hat, hI, hb⟩ := hrel
    have hd := Hd.out.new hb
    obtain ⟨a, cap, c0, c1, c2, hf, -, hr, -⟩ := hd.open
    have HI := hide hI
    have Hat := hide hat
    have Hb := hide hb
    have HD := hide hd
    by_cases hlt : k < D.lines.length
    · have hltI : (k : Int) < (D.lines.length : Int) := by omega
      obtain ⟨b, rfl, hc⟩ := strs_cell hr k hlt
      have hsz := bytesOf_mem (List.getElem_mem hlt)
      have hlen := hat.len
      have u := hide (refLine_calls w.heap.size w.heap.size q S D.lines[k] k wr hI hb.size (by omega) (by omega) (by rw [hat.same]; omega) (by omega))
      cases hB1 : lineB S (D.lines[k]).data.toList with
      | true =>
        have hn := hide (openAt_line hat hlt hB1)
        rw [hB1] at u
        clear hat hI hb hd hf hr c0 c2 hlen hsz hB1 i0
        go_wp2_with fail
        refine u.out.mono ?_
        rintro e w1 ⟨rfl, I1, T1⟩
        have b1 := hide (Hb.out.trans (T1.below Hb.out.size fun j _ e => by omega))
        have I1' := hide I1
        clear u T1 I1
        go_wp2_with fail
        exact ⟨⟨k + 1, _, by go_num, by omega, hn.out, I1'.out, b1.out⟩, by simp [intOf]; omega⟩
      | false =>
        have hn := openAt_lineNot hat hlt hB1
        rw [hB1, hn.2] at u
        have hS : openS D = { S with D := ⟨D.room, D.lines.take k, k⟩ } := by
          unfold openS
          rw [hn.1]
          dsimp only
          unfold openD
          rw [if_pos hlt]
        have hO : openD D (runE (emptyS D) D.lines 0).2 = ⟨D.room, D.lines.take k, k⟩ := by
          rw [hn.1]
          unfold openD
          rw [if_pos hlt]
        have HS := hide hS
        have HO := hide hO
        clear hat hI hb hd hf hr c0 c2 hsz hB1 i0 hn hS hO
        go_wp2_with fail
        refine u.out.mono ?_
        rintro e w1 ⟨rfl, I1, T1⟩
        have b1 := Hb.out.trans (T1.below Hb.out.size fun j _ e => by omega)
        have I1' := hide I1
        have b1' := hide b1
        have u2 := hide (refDiskSync_calls B q g D w1 (Hd.out.new b1))
        clear u T1 I1 b1
        go_wp2_with fail
        refine u2.out.mono ?_
        rintro e w2 ⟨rfl, D2, T2⟩
        have I2 := hide (I1'.out.disk_goes (Hd.out.new b1'.out) T2)
        have D2' := hide D2
        have T2' := hide T2
        have u3 := refDiskCut_calls B q g _ (k : Int) w2 D2 (Nat.le_trans hB (Nat.le_trans b1'.out.size T2.size))
        rw [cutE_all D k hk, cutD_all D k hk] at u3
        have U3 := hide u3
        clear u2 D2 T2 u3
        go_wp2_with fail
        refine U3.out.mono ?_
        rintro e w3 ⟨rfl, g', D3, T3, G3⟩
        have I3 := hide ((I2.out.disk_goes D2'.out T3).setD ⟨D.room, D.lines.take k, k⟩ (by rw [List.length_take]; omega))
        have D3' := hide D3
        have T3' := hide T3
        have G3' := hide G3
        clear D3 T3 G3 U3
        go_wp2_with fail
        go_ret
        exact ⟨rfl, by rw [HS.out]; exact I3.out, ⟨g', by rw [HO.out]; exact D3'.out, fun j h => (G3'.out j h).imp id fun h => Nat.le_trans (Nat.le_trans b1'.out.size T2'.out.size) h⟩, (T2'.out.trans T3'.out).of_touch b1'.out⟩
    · obtain rfl : k = D.lines.length := by omega
      have hR := openAt_end hat
      have hS : openS D = S := by
        unfold openS
        rw [hR]
        dsimp only
        unfold openD
        rw [if_neg (by omega), ← hat.same]
      have hO : openD D (runE (emptyS D) D.lines 0).2 = D := by
        rw [hR]
        unfold openD
        rw [if_neg (by omega)]
      have HS := hide hS
      have HO := hide hO
      clear hat hI hb hd hf hr c0 c2 i0 hR hS hO
      go_wp2_with fail
      go_ret
      exact ⟨rfl, by rw [HS.out]; exact HI.out, ⟨g, by rw [HO.out]; exact HD.out, fun j h => .inl h⟩, touch_new Hb.out⟩

end Go.Proofs.YtncmocmmkbmmjaaGreatDoor

/- The reference's Before and SameRec. Own work; no statement. -/
set_option linter.unusedSimpArgs false
set_option linter.unusedVariables false
namespace Go.Proofs.YtncmocmmkbmmjaaGreatDoor
open Go.RowKit
set_option maxHeartbeats 2000000 in
theorem refSameRec_calls (va vb : Value) (a b : RecD) (w : World) (ha : IsRec w va a) (hb : IsRec w vb b) (hla : a.dep.length ≤ 1099511627776) (hlb : b.dep.length ≤ 1099511627776) :
    Calls Tryz.prog 46 #[va, vb] w fun e w' => e = .returned (.bool (sameR a b)) ∧ Below w.heap.size w w' := by
  obtain ⟨c, hc⟩ : ∃ c, sameR a b = c := ⟨_, rfl⟩
  rw [hc]
  unfold sameR at hc
  obtain ⟨site, seq, dep, key, val⟩ := a
  obtain ⟨a, cap, rfl, hn⟩ := ha
  obtain ⟨site', seq', dep', key', val'⟩ := b
  obtain ⟨a', cap', rfl, hn'⟩ := hb
  dsimp only at *
  have HB := hide ((box_below w (.cells #[.int .i64 site, .int .i64 seq, .slice a dep.length cap, .string key, .string val] 95)).alloc (by simp) (.cells #[.int .i64 site', .int .i64 seq', .slice a' dep'.length cap', .string key', .string val'] 95))
  have Hn := hide (hn.below HB.out)
  have Hn' := hide (hn'.below HB.out)
  have Hc := hide hc
  clear hc hn hn'
  obtain ⟨sv, hsv⟩ : ∃ sv, everyB eqB dep dep' = sv := ⟨_, rfl⟩
  have Hsv := hide hsv
  clear hsv
  by_cases h0 : site = site'
  case neg =>
    have e : c = false := by rw [← Hc.out, decide_eq_false h0]; simp
    subst e
    have h0' : (site == site') = false := by simp [h0]
    clear h0 Hc
    go_enter Tryz.func46, Tryz.ntmps46
    go_wp2_with (go_at_call 75; refine (refSame_calls _ _ dep dep' _ Hn.out Hn'.out hla hlb).mono ?_; rintro e w' ⟨rfl, rfl⟩; rw [Hsv.out])
    go_ret
    exact ⟨rfl, HB.out⟩
  subst h0
  by_cases h1 : seq = seq'
  case neg =>
    have e : c = false := by rw [← Hc.out, decide_eq_false h1]; simp
    subst e
    have h1' : (seq == seq') = false := by simp [h1]
    clear h1 Hc
    go_enter Tryz.func46, Tryz.ntmps46
    go_wp2_with (go_at_call 75; refine (refSame_calls _ _ dep dep' _ Hn.out Hn'.out hla hlb).mono ?_; rintro e w' ⟨rfl, rfl⟩; rw [Hsv.out])
    go_ret
    exact ⟨rfl, HB.out⟩
  subst h1
  cases sv with
  | false =>
    have e : c = false := by rw [← Hc.out, Hsv.out]; simp
    subst e
    clear Hc
    go_enter Tryz.func46, Tryz.ntmps46
    go_wp2_with (go_at_call 75; refine (refSame_calls _ _ dep dep' _ Hn.out Hn'.out hla hlb).mono ?_; rintro e w' ⟨rfl, rfl⟩; rw [Hsv.out])
    go_ret
    exact ⟨rfl, HB.out⟩
  | true =>
    by_cases h3 : key = key'
    case neg =>
      have e : c = false := by rw [← Hc.out, decide_eq_false h3]; simp
      subst e
      have h3' := str_ne h3
      clear h3 Hc
      go_enter Tryz.func46, Tryz.ntmps46
      go_wp2_with (go_at_call 75; refine (refSame_calls _ _ dep dep' _ Hn.out Hn'.out hla hlb).mono ?_; rintro e w' ⟨rfl, rfl⟩; rw [Hsv.out])
      go_ret
      exact ⟨rfl, HB.out⟩
    subst h3
    by_cases h4 : val = val'
    case neg =>
      have e : c = false := by rw [← Hc.out, decide_eq_false h4]; simp
      subst e
      have h4' := str_ne h4
      clear h4 Hc
      go_enter Tryz.func46, Tryz.ntmps46
      go_wp2_with (go_at_call 75; refine (refSame_calls _ _ dep dep' _ Hn.out Hn'.out hla hlb).mono ?_; rintro e w' ⟨rfl, rfl⟩; rw [Hsv.out])
      go_ret
      exact ⟨rfl, HB.out⟩
    subst h4
    have e : c = true := by rw [← Hc.out, Hsv.out]; simp
    subst e
    clear Hc
    go_enter Tryz.func46, Tryz.ntmps46
    go_wp2_with (go_at_call 75; refine (refSame_calls _ _ dep dep' _ Hn.out Hn'.out hla hlb).mono ?_; rintro e w' ⟨rfl, rfl⟩; rw [Hsv.out])
    go_ret
    exact ⟨rfl, HB.out⟩

end Go.Proofs.YtncmocmmkbmmjaaGreatDoor

/- The laws' Same: a segment and the reference's. Own work; no statement. -/
set_option linter.unusedSimpArgs false
set_option linter.unusedVariables false
namespace Go.Proofs.YtncmocmmkbmmjaaGreatDoor
open Go.RowKit Go.Shelf Go.Sort

theorem sameR_self' (r : RecD) : sameR r r = true := by
  unfold sameR
  simp only [decide_true, Bool.true_and]
  rw [same_iff]
  exact fun _ => rfl

set_option maxHeartbeats 4000000 in
set_option maxRecDepth 100000 in
theorem lawSame_calls (B B1 B2 p q : Nat) (g : Option Nat) (m : SegM) (S : SegD) (w : World) (hI : IsSeg w B m S) (hr : IsRS w B1 p q S) (hd : IsRD w B2 q g S.D) (hl : S.slots.length ≤ 100) :
    Calls Tryz.prog 14 #[.pointer (some ⟨m.p, 0, none⟩), .pointer (some ⟨p, 0, none⟩)] w fun e w' => e = .returned (.bool true) ∧ Below w.heap.size w w' := by
  have uA := hide (segAll_calls B m S w hI)
  have hdep : ∀ x ∈ S.slots, x.r.dep.length ≤ 17592186044416 := fun x hx => by have := (hI.ok.each x hx).2.2.2.2.b.len; omega
  have Hd := hide hd
  have Hr := hide hr
  have HI := hide hI
  have Hdep := hide hdep
  have HOk := hide hI.ok
  clear hd hr hI hdep
  go_enter Tryz.func14, Tryz.ntmps14
  go_wp2_with fail
  refine uA.out.mono ?_
  rintro e w1 ⟨b, v, qs, rfl, A1, B1'⟩
  go_wp2_with fail
  refine (segRows_on b _ 100 v qs S.slots w1 A1 Hdep.out hl (by decide)).mono ?_
  rintro e w2 ⟨va, vb, rfl, N2, R2, B2'⟩
  obtain ⟨pa, ca, rfl, -, hna⟩ := N2
  obtain ⟨pb, cb, rfl, hrb⟩ := R2
  have b12 := B1'.trans (B2'.mono B1'.size)
  have hd2 := Hd.out.new b12
  have hr2 := Hr.out.keep b12
  have hI2 := HI.out.keep b12
  replace hna : ∀ t (h : t < S.slots.length), ∃ b o, pa = some ⟨b, o, none⟩ ∧ w2.cell? ⟨b, o + t, none⟩ = some (.int .i64 S.slots[t].pos) := fun t h => by
    obtain ⟨b, o, e1, e2⟩ := hna t (by simpa using h)
    exact ⟨b, o, e1, by simpa [h] using e2⟩
  replace hrb : ∀ t (h : t < S.slots.length), ∃ b o, pb = some ⟨b, o, none⟩ ∧ RecAt w2 b (o + t * 5) S.slots[t].r := fun t h => by
    obtain ⟨b, o, e1, e2⟩ := hrb t (by simpa using h)
    exact ⟨b, o, e1, by simpa using e2⟩
  rw [List.length_map, List.length_map]
  obtain ⟨v2, l2, hl2, hp2, hs2⟩ := hr2.val
  obtain ⟨sa, scap, rfl⟩ := ownsRow_slice hs2.row
  have hll : l2.length = S.slots.length := by rw [← hl2]; simp
  rw [hll] at hp2
  obtain ⟨c0, c1, c2, c3, -, -, -, -⟩ := cells4 hp2
  replace c0 : w2.cell? ⟨p, 0, none⟩ = some (.pointer (some ⟨q, 0, none⟩)) := c0
  obtain ⟨da, dcap, -, d1, -, -, -, -, -⟩ := hd2.open
  have q1 := hide (fun n => segSealed_calls _ _ S (w2.drewN n) (hI2.drews n))
  have q2 := hide (fun n => segDisk_calls _ _ S (w2.drewN n) (hI2.drews n))
  have q3 := hide (fun n => diskLen_calls _ _ _ _ (w2.drewN n) (hI2.drews n).disk)
  have B12 := hide b12
  have Hna := hide hna
  have Hrb := hide hrb
  have Hs2 := hide hs2
  have Hl2 := hide hl2
  have Hll := hide hll
  clear hd2 hr2 hI2 hp2 b12 hna hrb hs2 hl2 hll uA A1 B1' B2'
  go_wp2_with fail
  refine wp_region_quiet_lit (by kernel_rfl) (by kernel_rfl) ?_
  first | go_big_quiet_step (fail) | quiet_step (fail)
  first | go_big_quiet_step (fail) | quiet_step (fail)
  first | go_big_quiet_step (fail) | quiet_step (fail)
  first | go_big_quiet_step (fail) | quiet_step (fail)
  first | go_big_quiet_step (fail) | quiet_step (fail)
  first | go_big_quiet_step (fail) | quiet_step (fail)
  first | go_big_quiet_step (fail) | quiet_step (fail)
  first | go_big_quiet_step (fail) | quiet_step (fail)
  first | go_big_quiet_step (fail) | quiet_step (fail)
  first | go_big_quiet_step (fail) | quiet_step (fail)
  first | go_big_quiet_step (fail) | quiet_step (fail)
  first | go_big_quiet_step (fail) | quiet_step (fail)
  first | go_big_quiet_step (fail) | quiet_step (fail)
  first | go_big_quiet_step (fail) | quiet_step (fail)
  first | go_big_quiet_step (exact Calls.quiet_of_same (q1.out _)) | quiet_step (exact Calls.quiet_of_same (q1.out _))
  first | go_big_quiet_step (fail) | quiet_step (fail)
  first | go_big_quiet_step (fail) | quiet_step (fail)
  first | go_big_quiet_step (fail) | quiet_step (fail)
  first | go_big_quiet_step (fail) | quiet_step (fail)
  first | go_big_quiet_step (fail) | quiet_step (fail)
  first | go_big_quiet_step (fail) | quiet_step (fail)
  first | go_big_quiet_step (fail) | quiet_step (fail)
  first | go_big_quiet_step (fail) | quiet_step (fail)
  first | go_big_quiet_step (exact Calls.quiet_of_same (q2.out _)) | quiet_step (exact Calls.quiet_of_same (q2.out _))
  first | go_big_quiet_step (fail) | quiet_step (fail)
  first | go_big_quiet_step (fail) | quiet_step (fail)
  first | go_big_quiet_step (fail) | quiet_step (fail)
  first | go_big_quiet_step (fail) | quiet_step (fail)
  first | go_big_quiet_step (exact Calls.quiet_of_same (q2.out _)) | quiet_step (exact Calls.quiet_of_same (q2.out _))
  first | go_big_quiet_step (exact Calls.quiet_of_same (q3.out _)) | quiet_step (exact Calls.quiet_of_same (q3.out _))
  first | go_big_quiet_step (fail) | quiet_step (fail)
  first | go_big_quiet_step (fail) | quiet_step (fail)
  first | go_big_quiet_step (fail) | quiet_step (fail)
  first | go_big_quiet_step (fail) | quiet_step (fail)
  first | go_big_quiet_step (fail) | quiet_step (fail)
  first | go_big_quiet_step (fail) | quiet_step (fail)
  first | go_big_quiet_step (fail) | quiet_step (fail)
  first | go_big_quiet_step (fail) | quiet_step (fail)
  first | go_big_quiet_step (fail) | quiet_step (fail)
  first | go_big_quiet_step (fail) | quiet_step (fail)
  refine wpQuiet_nil ?_
  intro _ hw'
  obtain ⟨nq, hw''⟩ := hw'
  subst hw''
  go_wp2_with fail
  clear q1 q2 q3 c0 c2 c3 d1 Hd Hr HI Hdep
  obtain ⟨w3, hw3⟩ : ∃ w3, w2.drewN nq = w3 := ⟨_, rfl⟩
  have b23 : Below w2.heap.size w2 w3 := by rw [← hw3]; exact drewsB w2 nq
  rw [hw3]
  clear hw3
  go_loopw [8] (fun kv wr => ∃ (k : Nat), kv = .int .i64 (k : Int) ∧ k ≤ S.slots.length ∧ Below w2.heap.size w2 wr) (fun kv _ => S.slots.length - (intOf kv).toNat)
  case atStart => exact ⟨0, rfl, Nat.zero_le _, b23⟩
  case round =>
    obtain ⟨k, rfl, hk, hb⟩ := hrel
    by_cases hlt : k < S.slots.length
    · have hltI : (k : Int) < (S.slots.length : Int) := by omega
      have hlt2 : k < l2.length := by rw [Hll.out]; exact hlt
      obtain ⟨ba, oa, rfl, e0⟩ := Hna.out k hlt
      obtain ⟨bb, ob, rfl, hrec⟩ := Hrb.out k hlt
      obtain ⟨g, rfl, hcell⟩ := Hs2.out.cell (k := k) hlt2
      have hx : (l2[k]).x = S.slots[k] := by simp [← Hl2.out]
      have hdp := Hs2.out.deps _ (List.getElem_mem hlt2)
      rw [← hx] at e0 hrec
      generalize l2[k] = y at *
      have hcell' : ∀ j u, j < 7 → y.cells[j]? = some u → ∀ d os, (grow (redrawn wr d) os).cell? ⟨g, k * 7 + j, none⟩ = some u := fun j u hj hu => cell_regrown (by
        have hc := (hcell j hj).trans hu
        exact (hb.cell (p := ⟨g, k * 7 + j, none⟩) (World.block_lt_of_cell? _ _ hc)).trans hc)
      have hgood : GoodR y.x.r := by
        rw [hx]
        exact (HOk.out.each _ (List.getElem_mem hlt)).2.2.2.2
      have hlen := hgood.b.len
      obtain ⟨⟨pos, line, site, seq, dep, key, val⟩, vd⟩ := y
      obtain ⟨fa, fc, r0, r1, r2, r3, r4, hn⟩ := hrec.below hb
      have hvd := own_below hdp hb
      dsimp only at *
      obtain ⟨ga, gc, rfl⟩ := ownsRow_slice hvd
      have e0' := cell_regrown ((hb.cell (p := ⟨ba, oa + k, none⟩) (World.block_lt_of_cell? _ _ e0)).trans e0)
      have e1' := cell_regrown ((hb.cell (p := ⟨p, 1, none⟩) (World.block_lt_of_cell? _ _ c1)).trans c1)
      have f0 := hcell' 0 _ (by omega) rfl
      have f1 := hcell' 1 _ (by omega) rfl
      have f2 := hcell' 2 _ (by omega) rfl
      have f3 := hcell' 3 _ (by omega) rfl
      have f4 := hcell' 4 _ (by omega) rfl
      have f5 := hcell' 5 _ (by omega) rfl
      replace r0 := cell_regrown r0
      replace r1 := cell_regrown r1
      replace r2 := cell_regrown r2
      replace r3 := cell_regrown r3
      replace r4 := cell_regrown r4
      dsimp only [RSl.cells] at *
      rw [Nat.add_zero] at f0
      have q4 := hide (fun d os => Calls.regrown_of (recOfLaw_calls _ ⟨site, seq, dep, key, val⟩ (grow (redrawn wr d) os) ⟨fa, fc, rfl, hn.below (below_regrown wr d os)⟩))
      have q5 := hide (fun d os => Calls.regrown_of (refSameRec_calls (.agg #[.int .i64 site, .int .i64 seq, .slice fa dep.length fc, .string key, .string val]) (.agg #[.int .i64 site, .int .i64 seq, .slice ga dep.length gc, .string key, .string val]) ⟨site, seq, dep, key, val⟩ ⟨site, seq, dep, key, val⟩ (grow (redrawn wr d) os) ⟨fa, fc, rfl, hn.below (below_regrown wr d os)⟩ ⟨ga, gc, rfl, (IsNums.of_row hvd).below (below_regrown wr d os)⟩ (by dsimp only; omega) (by dsimp only; omega)))
      rw [sameR_self'] at q5
      have HB := hide hb
      clear hdp hx hlt2 hcell hcell' e0 hrec hn hvd hgood Hna Hrb Hs2 Hl2 Hll c1 hb
      go_wp2_with fail
      refine wp_region_quiet_below (by kernel_rfl) (by kernel_rfl) ?_
      first | go_big_quiet_step (fail) | quiet_step (fail)
      first | go_big_quiet_step (fail) | quiet_step (fail)
      first | go_big_quiet_step (fail) | quiet_step (fail)
      first | go_big_quiet_step (fail) | quiet_step (fail)
      first | go_big_quiet_step (fail) | quiet_step (fail)
      first | go_big_quiet_step (fail) | quiet_step (fail)
      first | go_big_quiet_step (fail) | quiet_step (fail)
      first | go_big_quiet_step (fail) | quiet_step (fail)
      first | go_big_quiet_step (fail) | quiet_step (fail)
      first | go_big_quiet_step (fail) | quiet_step (fail)
      first | go_big_quiet_step (fail) | quiet_step (fail)
      first | go_big_quiet_step (fail) | quiet_step (fail)
      first | go_big_quiet_step (fail) | quiet_step (fail)
      first | go_big_quiet_step (fail) | quiet_step (fail)
      first | go_big_quiet_step (fail) | quiet_step (fail)
      first | go_big_quiet_step (fail) | quiet_step (fail)
      first | go_big_quiet_step (fail) | quiet_step (fail)
      first | go_big_quiet_step (fail) | quiet_step (fail)
      first | go_big_quiet_step (exact q4.out _ _) | quiet_step (exact q4.out _ _)
      first | go_big_quiet_step (fail) | quiet_step (fail)
      first | go_big_quiet_step (fail) | quiet_step (fail)
      first | go_big_quiet_step (fail) | quiet_step (fail)
      first | go_big_quiet_step (fail) | quiet_step (fail)
      first | go_big_quiet_step (fail) | quiet_step (fail)
      first | go_big_quiet_step (fail) | quiet_step (fail)
      first | go_big_quiet_step (fail) | quiet_step (fail)
      first | go_big_quiet_step (fail) | quiet_step (fail)
      first | go_big_quiet_step (exact q5.out _ _) | quiet_step (exact q5.out _ _)
      first | go_big_quiet_step (fail) | quiet_step (fail)
      first | go_big_quiet_step (fail) | quiet_step (fail)
      refine wpQuiet_nil ?_
      intro _ hw'
      obtain ⟨⟨dq, osq⟩, hw''⟩ := hw'
      subst hw''
      go_wp2_with fail
      exact ⟨⟨k + 1, by go_num, by omega, HB.out.trans ((below_regrown _ dq osq).mono HB.out.size)⟩, by simp [intOf]; omega⟩
    · obtain rfl : k = S.slots.length := by omega
      have HB := hide hb
      clear hb Hna Hrb Hs2 Hl2 Hll c1
      go_wp2_with fail
      go_ret
      exact ⟨rfl, B12.out.trans (HB.out.mono B12.out.size)⟩

end Go.Proofs.YtncmocmmkbmmjaaGreatDoor

/- A disk and the reference's, both opened; opened again. Own work; no statement. -/
set_option linter.unusedSimpArgs false
set_option linter.unusedVariables false
namespace Go.Proofs.YtncmocmmkbmmjaaGreatDoor
open Go.RowKit Go.Shelf Go.Sort

theorem runE_take : ∀ (l : List ByteArray) (S : SegD) (k : Nat), k ≤ (runE S l k).2 ∧ (runE S l k).2 ≤ k + l.length ∧ runE S (l.take ((runE S l k).2 - k)) k = runE S l k
  | [], S, k => ⟨Nat.le_refl _, Nat.le_refl _, by simp [runE]⟩
  | s :: l, S, k => by
    cases hp : parseE s.data.toList with
    | none =>
      have e : runE S (s :: l) k = (S, k) := by unfold runE; rw [hp]
      rw [e]
      exact ⟨Nat.le_refl _, by simp, by simp [runE]⟩
    | some f =>
      by_cases hf : mayS S f = true
      · have e : ∀ l, runE S (s :: l) k = runE (applyS S f k) l (k + 1) := fun l => by
          rw [runE, hp]
          dsimp only
          rw [if_pos hf]
        obtain ⟨h1, h2, h3⟩ := runE_take l (applyS S f k) (k + 1)
        rw [e]
        refine ⟨by omega, by simp; omega, ?_⟩
        rw [show (runE (applyS S f k) l (k + 1)).2 - k = ((runE (applyS S f k) l (k + 1)).2 - (k + 1)) + 1 by omega, List.take_succ_cons, e]
        exact h3
      · have e : runE S (s :: l) k = (S, k) := by
          unfold runE
          rw [hp]
          dsimp only
          rw [if_neg hf]
        rw [e]
        exact ⟨Nat.le_refl _, by simp, by simp [runE]⟩

/-- Opened again it is the same. -/
theorem openS_again (D : DiskD) : openS (openS D).D = openS D := by
  refine Replay.open ?_
  obtain ⟨-, h2, h3⟩ := runE_take D.lines (emptyS D) 0
  rw [Nat.zero_add] at h2
  rw [Nat.sub_zero] at h3
  unfold Replay
  have e := runE_D (openS D).D ((openS D).D.lines) (emptyS D) 0
  have hl : (openS D).D.lines = D.lines.take (runE (emptyS D) D.lines 0).2 := by
    unfold openS openD
    dsimp only
    split
    · rfl
    · rw [List.take_of_length_le (by omega)]
  rw [hl, h3] at e
  rw [show emptyS (openS D).D = { emptyS D with D := (openS D).D } from rfl, hl, e]
  refine Prod.ext rfl ?_
  dsimp only
  rw [List.length_take]
  omega
theorem openS_few (D : DiskD) : (openS D).D.lines.length ≤ D.lines.length := by
  unfold openS openD
  dsimp only
  split
  · simp
    omega
  · exact Nat.le_refl _

theorem IsSeg.apart {w w' : World} {B : Nat} {m : SegM} {S : SegD} {T : Nat → Prop} (h : IsSeg w B m S) (t : Touch T w w') (hT : ∀ k, k < w.heap.size → T k → ¬ m.on k ∧ ∀ c ty f, w.heap[k]? = some (.cells c ty f) → ty ≠ 109 ∧ ty ≠ 3) : IsSeg w' B m S := by
  obtain ⟨v, qs, hv, hl, hp, hr, hs⟩ := h.val
  have hk : ∀ k, k < w.heap.size → m.on k → w'.heap[k]? = w.heap[k]? := fun k h1 h2 => t.block k h1 fun e => (hT k h1 e).1 h2
  refine ⟨h.ok, h.low, Nat.le_trans h.cl t.size, h.disk.keep fun k e => hk k (h.disk.on e).2 (.inr (.inr e)), v, qs, hv, hl, (hk m.p h.lt (.inl rfl)).trans hp, ownsRow_of_heap hr fun k e => hk k (hr.lt k e).2 (.inr (.inl (hv ▸ e))), fun i h1 h2 => (hs i h1 h2).keep fun k c ty hk' hty => t.block k (ltAt hk') fun e => ?_⟩
  have := (hT k (ltAt hk') e).2 _ _ _ hk'
  rcases hty with e' | e'
  · exact this.1 e'
  · exact this.2 e'

theorem IsRD.lower' {w : World} {B B' p : Nat} {g : Option Nat} {D : DiskD} (h : IsRD w B p g D) (hB : B' ≤ B) : IsRD w B' p g D := by
  obtain ⟨v, hv, hp, hr⟩ := h.val
  exact ⟨h.ok, Nat.le_trans hB h.low, v, hv, hp, ownsRow_low hr hB⟩

/-- Both disks lie there, none on the other. -/
structure Both (w : World) (B p q : Nat) (D : DiskD) : Prop where
  ex : ∃ g gr, IsDisk w B p g D ∧ IsRD w B q gr D ∧ Apart p g q gr

theorem Both.keep {w w' : World} {B p q : Nat} {D : DiskD} (h : Both w B p q D) (hb : Below w.heap.size w w') : Both w' B p q D := by
  obtain ⟨g, gr, h1, h2, h3⟩ := h.ex
  exact ⟨g, gr, h1.new hb, h2.new hb, h3⟩

theorem both_first (B p q : Nat) (D : DiskD) (s : ByteArray) (w : World) (h : Both w B p q D) (hB : B ≤ w.heap.size) (hs : s.size ≤ 1099511627776) :
    Calls Tryz.prog 10 #[.pointer (some ⟨p, 0, none⟩), .string s] w fun e w' => e = .returned (.int .i64 (writeE D s)) ∧ (∃ g gr, IsDisk w' B p g (writeD D s) ∧ IsRD w' B q gr D ∧ Apart p g q gr) ∧ Below B w w' := by
  obtain ⟨g, gr, h1, h2, h3⟩ := h.ex
  refine (diskWrite_to B p g D s _ _ rfl rfl w h1 hB hs).mono ?_
  rintro e w' ⟨h0, g', d, t, hg⟩
  refine ⟨h0, ⟨g', gr, d, h2.touch t fun k hk h => h3 k h hk, fun k k1 k2 => ?_⟩, h1.below hB t⟩
  rcases k1 with rfl | e
  · exact h3 k (.inl rfl) k2
  · rcases hg k e with e' | e'
    · exact h3 k (.inr e') k2
    · have := (h2.on k2).2
      omega
theorem both_next (B p q : Nat) (g gr : Option Nat) (D : DiskD) (s : ByteArray) (w : World) (h1 : IsDisk w B p g (writeD D s)) (h2 : IsRD w B q gr D) (h3 : Apart p g q gr) (hB : B ≤ w.heap.size) (hs : s.size ≤ 1099511627776) :
    Calls Tryz.prog 11 #[.pointer (some ⟨q, 0, none⟩), .string s] w fun e w' => e = .returned (.int .i64 (writeE D s)) ∧ Both w' B p q (writeD D s) ∧ Below B w w' := by
  refine (refDiskWrite_calls B q gr D s w h2 hB hs).mono ?_
  rintro e w' ⟨h0, g', d, t, hg⟩
  refine ⟨h0, ⟨g, g', h1.touch t fun k hk h => h3 k hk h, d, fun k k1 k2 => ?_⟩, h2.below hB t⟩
  rcases k2 with rfl | e
  · exact h3 k k1 (.inl rfl)
  · rcases hg k e with e' | e'
    · exact h3 k k1 (.inr e')
    · have := (h1.on k1).2
      omega

/-- Both segments lie there. -/
structure Twain (w : World) (B p q r : Nat) (m : SegM) (S : SegD) : Prop where
  dp : m.dp = p
  seg : IsSeg w B m S
  low : B ≤ r
  rs : IsRS w r r q S
  rd : ∃ gr, IsRD w B q gr S.D ∧ Apart p m.dg q gr

theorem Twain.keep {w w' : World} {B p q r : Nat} {m : SegM} {S : SegD} (h : Twain w B p q r m S) (hb : Below w.heap.size w w') : Twain w' B p q r m S := by
  obtain ⟨gr, h1, h2⟩ := h.rd
  exact ⟨h.dp, h.seg.keep hb, h.low, h.rs.keep hb, gr, h1.new hb, h2⟩

theorem twain_first (B p q : Nat) (D : DiskD) (w : World) (h : Both w B p q D) (hB : B ≤ w.heap.size) :
    Calls Tryz.prog 12 #[.pointer (some ⟨p, 0, none⟩)] w fun e w' => ∃ m, e = .returned (.tuple #[.pointer (some ⟨m.p, 0, none⟩), .int .i64 0]) ∧ m.dp = p ∧ IsSeg w' B m (openS D) ∧ (∃ gr, IsRD w' B q gr D ∧ ∀ k, m.on k → ¬ onDisk q gr k) ∧ Below B w w' := by
  obtain ⟨g, gr, h1, h2, h3⟩ := h.ex
  refine (segOpen_calls B p g D w h1 hB).mono ?_
  rintro e w' ⟨m, h0, hm, I, t, hg⟩
  refine ⟨m, h0, hm, I, ⟨gr, h2.touch t fun k hk h => h3 k h hk, fun k k1 k2 => ?_⟩, h1.below hB t⟩
  rcases hg k k1 with e' | e'
  · exact h3 k e' k2
  · have := (h2.on k2).2
    omega
theorem twain_next (B p q : Nat) (gr : Option Nat) (m : SegM) (D : DiskD) (w : World) (hm : m.dp = p) (h1 : IsSeg w B m (openS D)) (h2 : IsRD w B q gr D) (h3 : ∀ k, m.on k → ¬ onDisk q gr k) (hB : B ≤ w.heap.size) :
    Calls Tryz.prog 13 #[.pointer (some ⟨q, 0, none⟩)] w fun e w' => ∃ r, e = .returned (.pointer (some ⟨r, 0, none⟩)) ∧ Twain w' B p q r m (openS D) ∧ Below B w w' := by
  refine (refOpen_calls B q gr D w h2 hB).mono ?_
  rintro e w' ⟨h0, I, ⟨g', d, hg⟩, t⟩
  refine ⟨w.heap.size, h0, ⟨hm, h1.apart t fun k hk e => ⟨fun e' => h3 k e' e, fun c ty f hc => ?_⟩, hB, I, g', d, fun k k1 k2 => ?_⟩, h2.below hB t⟩
  · obtain ⟨c', t', e', ht⟩ := h2.types e
    rw [hc] at e'
    cases e'
    rcases ht with rfl | rfl <;> exact ⟨by decide, by decide⟩
  · have hk : m.on k := .inr (.inr (by rw [hm]; exact k1))
    have := (h1.types hk).2.1
    rcases k2 with rfl | e
    · exact h3 k hk (.inl rfl)
    · rcases hg k e with e' | e'
      · exact h3 k hk (.inr e')
      · omega
/-- Opened again. -/
theorem twain_again (B p q r : Nat) (m : SegM) (D : DiskD) (w : World) (h : Twain w B p q r m (openS D)) (hB : B ≤ w.heap.size) (x : Value) (xs : List ByteArray) (c : Nat) (hx : w.ownsRow c 9 1 x xs.length (xs.map Value.string)) (hc : ∀ k, m.on k → k < c) :
    Calls Tryz.prog 12 #[.pointer (some ⟨p, 0, none⟩)] w fun e w' => ∃ m', e = .returned (.tuple #[.pointer (some ⟨m'.p, 0, none⟩), .int .i64 0]) ∧ Twain w' B p q r m' (openS D) ∧ IsStrs w' x xs ∧ Below B w w' := by
  obtain ⟨gr, h2, h3⟩ := h.rd
  have hd := h.seg.disk
  rw [h.dp] at hd
  have u := segOpen_calls B p m.dg (openS D).D w hd hB
  rw [openS_again] at u
  refine u.mono ?_
  rintro e w' ⟨m', h0, hm, I, t, hg⟩
  refine ⟨m', h0, ⟨hm, I, h.low, h.rs.touch t fun k c ty f hk e => ⟨?_, ?_, ?_⟩, gr, h2.touch t fun k hk h => h3 k h hk, fun k k1 k2 => ?_⟩, IsStrs.of_row (ownsRow_of_heap hx fun k e => t.block k (hx.lt k e).2 fun e' => ?_), hd.below hB t⟩
  · rintro rfl
    exact hd.not_on e (by decide) (by decide) hk
  · rintro rfl
    exact hd.not_on e (by decide) (by decide) hk
  · rintro rfl
    exact hd.not_on e (by decide) (by decide) hk
  · rcases hg k (.inr (.inr (by rw [hm]; exact k1))) with e' | e'
    · exact h3 k e' k2
    · have := (h2.on k2).2
      omega
  · have e1 := hc k (.inr (.inr (by rw [h.dp]; exact e')))
    have e2 := (hx.lt k e).1
    omega

end Go.Proofs.YtncmocmmkbmmjaaGreatDoor

/- What the proofs of the statements share: slices that came in. Own work; no statement. -/
set_option linter.unusedSimpArgs false
set_option linter.unusedVariables false
namespace Go.Proofs.YtncmocmmkbmmjaaGreatDoor
open Go.ChangeShapes Go.WideShapes Go.ChangeAt Go.RowKit

theorem own : ownKnob Tryz.prog.godebug = none := by kernel_rfl
theorem laidOut : laidOutB Tryz.prog = true := by kernel_rfl

/-- A slice of integers that came in: what it reads as; its numbers fit their kind. -/
theorem nums_of_open {H : Type} {enc : TypeId × Value → H} {W : World} {base : Nat} {sp : Nat → Bool} {held : Bool} {t e : TypeId} {k : IntKind} {fuel : Nat} {a : Option Addr} {len cap : Nat} {x : DataW H × List MemPlace}
    (ht : Tryz.prog.underlying t = some (.slice e)) (he : Tryz.prog.underlying e = some (.int k)) (hc : Tryz.prog.cellsOf e = 1) (h : DataW.trod enc Tryz.prog W base sp held fuel t [.slice a len cap] = some x) (hsp : ∀ b, sp b = true) :
    ∃ zs : List Int, IsNums k W (.slice a len cap) zs ∧ (∀ n ∈ zs, (Lit.int k n).wf = true) := by
  rcases open_ints ht he hc h with ⟨hcs, _⟩ | ⟨y, l, c, zs, hcs, _, hl, hm, hz, _, hcell, hwz⟩
  · simp at hcs
    obtain ⟨rfl, rfl, rfl⟩ := hcs
    exact ⟨[], IsNums.nil _ _ _ _, fun n hn => absurd hn (by simp)⟩
  · simp at hcs
    obtain ⟨rfl, rfl, rfl⟩ := hcs
    rw [hsp, if_pos rfl] at hz
    have hlen : (zs.take len).length = len := by simp; omega
    refine ⟨zs.take len, ⟨some y, cap, by rw [hlen], by omega, fun i hi => ?_⟩, fun n hn => hwz n (List.mem_of_mem_take hn)⟩
    obtain ⟨b, off, rfl, hc'⟩ := ints_at hcell (by omega)
    refine ⟨b, off, rfl, ?_⟩
    rw [hc' i (by omega)]
    simp [List.getD, List.getElem?_take, show i < len by omega]

end Go.Proofs.YtncmocmmkbmmjaaGreatDoor

/- Slices of texts that came in: what they read as. Own work; no statement. -/
set_option linter.unusedSimpArgs false
set_option linter.unusedVariables false
namespace Go.Proofs.YtncmocmmkbmmjaaGreatDoor
open Go.ChangeShapes Go.WideShapes Go.ChangeAt Go.RowKit Go.Deep

set_option maxRecDepth 100000 in
theorem strs_open {H : Type} {enc : TypeId × Value → H} {W : World} {base b0 : Nat} {sp : Nat → Bool} {held : Bool} {r : Reach} {v : Value} {d : DataW H} {p : List MemPlace} (hv : Value.okWide Tryz.prog W r b0 22 v) (h : DataW.Trod enc Tryz.prog W base sp held 22 v d p) (hsp : ∀ b, sp b = true) :
    ∃ l : List ByteArray, IsStrs W v l ∧ (∀ s ∈ l, s.size ≤ maxLen) := by
  obtain ⟨a, len, cap, rfl⟩ := okWide_slice Tryz.underlying22 hv
  obtain ⟨fuel, hf⟩ := h
  have hc : Tryz.prog.cellsOf 9 = 1 := by kernel_rfl
  rcases open_slice Tryz.underlying22 hf with ⟨hcs, _⟩ | ⟨ad, len', cp, m, n', D, Pl, hcs, _, hlc, _, hm, hx, hat⟩
  · simp [Value.cells] at hcs
    obtain ⟨rfl, rfl, rfl⟩ := hcs
    exact ⟨[], ⟨none, 0, rfl, Nat.le_refl _, fun t ht => absurd ht (by simp)⟩, by simp⟩
  · simp [Value.cells] at hcs
    obtain ⟨rfl, rfl, rfl⟩ := hcs
    rw [hsp, if_pos rfl] at hm
    rw [hc] at hat
    have each : ∀ i, i < len → ∃ q : ByteArray, (W.cells? base (ad.add (i * 1)) 1 = some [.string q]) ∧ q.size ≤ maxLen := by
      intro i hi
      obtain ⟨cs', h1, h2⟩ := hat i (by omega)
      obtain ⟨q, e, -, hw⟩ := DataW.trod_string Tryz.underlying9 h2
      exact ⟨q, by rw [h1, e], hw⟩
    have : Inhabited ByteArray := ⟨ByteArray.empty⟩
    obtain ⟨q, hq⟩ := choose_lt each
    have hlen : ((List.range len).map fun i => q i).length = len := by simp
    refine ⟨(List.range len).map fun i => q i, ⟨some ad, cap, by rw [hlen], by rw [hlen]; omega, fun t ht => ?_⟩, fun r hr => ?_⟩
    · rw [hlen] at ht
      obtain ⟨h1, _⟩ := hq t ht
      obtain ⟨_, _, hcell⟩ := World.cells?_some h1
      obtain ⟨b, off, spot⟩ := ad
      have g0 := hcell 0 (by omega)
      rw [add_add] at g0
      simp only [List.getElem?_cons_zero, List.getD, Option.getD_some, Nat.add_zero, Nat.mul_one] at g0
      have hspot : spot = none := by
        obtain ⟨k1, _⟩ := hq 0 (by omega)
        obtain ⟨_, _, kcell⟩ := World.cells?_some k1
        have k0 := kcell 0 (by omega)
        rw [add_add] at k0
        simpa [Addr.add] using World.cell?_spot k0
      subst hspot
      rw [Go.WideShapes.add_plain] at g0
      refine ⟨b, off, rfl, ?_⟩
      rw [List.getElem_map, List.getElem_range]
      exact g0
    · obtain ⟨i, hi, rfl⟩ := List.mem_map.1 hr
      exact (hq i (List.mem_range.1 hi)).2

end Go.Proofs.YtncmocmmkbmmjaaGreatDoor

/- The law's walk: SegLines. Own work; no statement. -/
set_option linter.unusedSimpArgs false
set_option linter.unusedVariables false
namespace Go.Proofs.YtncmocmmkbmmjaaGreatDoor
open Go.RowKit Go.Shelf Go.Sort

theorem writeD_few (D : DiskD) (s : ByteArray) : (writeD D s).lines.length ≤ D.lines.length + 1 := by
  unfold writeD
  split
  · simp
  · omega

set_option maxHeartbeats 4000000 in
set_option maxRecDepth 100000 in
theorem segLines_walk (v : Value) (l : List ByteArray) (w : World) (hv : IsStrs w v l) (hwl : ∀ s ∈ l, s.size ≤ maxLen) (hp : Pow w) :
    Calls Tryz.prog 3 #[v] w fun e w' => e = .returned (.bool true) ∧ Below w.heap.size w w' := by
  obtain ⟨va, vcap, rfl, hcap, -⟩ := id hv
  have Hv := hide hv
  have Hwl := hide hwl
  clear hv hwl
  go_enter Tryz.func3, Tryz.ntmps3
  go_wp2_with fail
  refine (segKnown_calls w hp).mono ?_
  rintro e w1 ⟨rfl, b1⟩
  by_cases h40 : 40 < l.length
  · have h40I : (40 : Int) < (l.length : Int) := by omega
    go_wp2_with fail
    go_ret
    exact ⟨rfl, b1⟩
  have h40I : ¬ (40 : Int) < (l.length : Int) := by omega
  go_wp2_with fail
  refine (diskNew_calls 1048576 w1 (by decide) (by decide)).mono ?_
  rintro e w2 ⟨rfl, d2, t2⟩
  have b2 := b1.trans (t2.mono b1.size)
  have d2' := d2.lower b1.size
  obtain ⟨p, hpe⟩ : ∃ p, w1.heap.size = p := ⟨_, rfl⟩
  rw [hpe] at d2' ⊢
  clear t2 hpe d2
  go_wp2_with fail
  refine (refDiskNew_calls 1048576 w2 (by decide) (by decide)).mono ?_
  rintro e w3 ⟨rfl, r3, t3⟩
  have b3 := b2.trans (t3.mono b2.size)
  have both : Both w3 w.heap.size p w2.heap.size ⟨1048576, [], 0⟩ := ⟨none, none, d2'.new t3, r3.lower' b2.size, fun k h1 h2 => by
    have e1 := (d2'.on h1).2
    have e2 := (r3.on h2).1
    omega⟩
  obtain ⟨q, hqe⟩ : ∃ q, w2.heap.size = q := ⟨_, rfl⟩
  rw [hqe] at both ⊢
  clear t3 hqe r3 d2' b2 b1
  go_wp2_with fail
  go_loopw [7] (fun kv wr => ∃ (k : Nat) (D : DiskD), kv = .int .i64 (k : Int) ∧ k ≤ l.length ∧ D.lines.length ≤ k ∧ Both wr w.heap.size p q D ∧ Below w.heap.size w wr) (fun kv _ => l.length - (intOf kv).toNat)
  case atStart => exact ⟨0, _, rfl, Nat.zero_le _, Nat.le_refl _, both, b3⟩
  case round =>
    clear both b3
    obtain ⟨k, D, rfl, hk, hDl, hbo, hB⟩ := hrel
    have HBo := hide hbo
    have HB := hide hB
    clear hbo hB
    by_cases hlt : k < l.length
    · have hltI : (k : Int) < (l.length : Int) := by omega
      obtain ⟨a', cap', e, -, hcell⟩ := Hv.out.below HB.out
      simp only [Value.slice.injEq] at e
      obtain ⟨rfl, -, rfl⟩ := e
      obtain ⟨b, o, rfl, c0⟩ := hcell k hlt
      have hsz := Hwl.out l[k] (List.getElem_mem hlt)
      clear hcell
      obtain ⟨s, hs⟩ : ∃ s, l[k] = s := ⟨_, rfl⟩
      rw [hs] at c0 hsz
      have Hs := hide hs
      clear hs
      by_cases h300 : 300 < s.size
      · have h300I : (300 : Int) < (s.size : Int) := by omega
        have hsz' : (s.size : Int) ≤ 9223372036854775807 := by have : s.size ≤ 9223372036854775807 := hsz; omega
        go_wp2_with fail
        go_ret
        exact ⟨rfl, HB.out⟩
      · have h300I : ¬ (300 : Int) < (s.size : Int) := by omega
        have u1 := hide (both_first w.heap.size p q D s wr HBo.out HB.out.size (by omega))
        clear hsz
        go_wp2_with fail
        refine u1.out.mono ?_
        rintro e w4 ⟨rfl, ⟨g, gr, d4, r4, ap4⟩, t4⟩
        have u2 := hide (both_next w.heap.size p q g gr D s w4 d4 r4 ap4 (Nat.le_trans HB.out.size t4.size) (by omega))
        have b4 := hide (HB.out.trans t4)
        obtain ⟨a', cap', e, -, hcell⟩ := Hv.out.below b4.out
        simp only [Value.slice.injEq, Option.some.injEq] at e
        obtain ⟨rfl, -, rfl⟩ := e
        obtain ⟨b', o', e, c1⟩ := hcell k hlt
        cases e
        rw [Hs.out] at c1
        clear u1 d4 r4 ap4 t4 c0 HB HBo hcell
        go_wp2_with fail
        refine u2.out.mono ?_
        rintro e w5 ⟨rfl, bo5, t5⟩
        have b5 := hide (b4.out.trans t5)
        have bo5' := hide bo5
        clear u2 t5 bo5 c1
        go_wp2_with fail
        exact ⟨⟨k + 1, _, by go_num, by omega, by have := writeD_few D s; omega, bo5'.out, b5.out⟩, by simp [intOf]; omega⟩
    · obtain rfl : k = l.length := by omega
      have hltI : ¬ (l.length : Int) < (l.length : Int) := by omega
      have hfew := openS_few D
      have u1 := hide (twain_first w.heap.size p q D wr HBo.out HB.out.size)
      go_wp2_with fail
      refine u1.out.mono ?_
      rintro e w4 ⟨m, rfl, hm, I4, ⟨gr, r4, ap4⟩, t4⟩
      have b4 := HB.out.trans t4
      have u2 := hide (twain_next w.heap.size p q gr m D w4 hm I4 r4 ap4 b4.size)
      have B4 := hide b4
      clear u1 I4 r4 ap4 t4 b4 HB HBo
      go_wp2_with fail
      refine u2.out.mono ?_
      rintro e w5 ⟨r, rfl, T5, t5⟩
      have B5 := hide (B4.out.trans t5)
      have HT5 := hide T5
      obtain ⟨gr5, r5, -⟩ := T5.rd
      have hslots : (openS D).slots.length ≤ 100 := by have := T5.seg.ok.few; omega
      have u3 := hide (lawSame_calls _ _ _ r q gr5 m (openS D) w5 T5.seg T5.rs r5 hslots)
      clear u2 B4 t5 T5 r5
      go_wp2_with fail
      refine u3.out.mono ?_
      rintro e w6 ⟨rfl, t6⟩
      have B6 := hide (B5.out.trans (t6.mono B5.out.size))
      have T6 := HT5.out.keep t6
      have HT6 := hide T6
      have hd6 := T6.seg.disk
      rw [T6.dp] at hd6
      have u4 := hide (diskLines_calls _ _ _ _ w6 hd6)
      clear u3 t6 HT5 B5 T6 hd6
      go_wp2_with fail
      refine u4.out.mono ?_
      rintro e w7 ⟨bx, rfl, -, sq7, t7⟩
      have B7 := hide (B6.out.trans (t7.mono B6.out.size))
      have HT7 := hide (HT6.out.keep t7)
      have u5 := hide (lawLines3_calls bx 50 _ w7 sq7 (by omega) (by decide))
      clear u4 t7 HT6 B6 sq7
      go_wp2_with fail
      refine u5.out.mono ?_
      rintro e w8 ⟨x, rfl, hx, t8⟩
      obtain ⟨xa, xc, rfl⟩ := ownsRow_slice hx
      have B8 := hide (B7.out.trans (t8.mono B7.out.size))
      have T8 := HT7.out.keep t8
      have u6 := hide (twain_again w.heap.size p q r m D w8 T8 B8.out.size _ _ w7.heap.size hx fun k hk => (HT7.out.seg.types hk).2.1)
      clear u5 t8 T8 B7 HT7 hx
      go_wp2_with fail
      refine u6.out.mono ?_
      rintro e w9 ⟨m', rfl, T9, X9, t9⟩
      have B9 := hide (B8.out.trans t9)
      clear u6 t9 B8
      generalize openS D = S at *
      obtain ⟨gr9, r9, -⟩ := T9.rd
      have hd9 := T9.seg.disk
      rw [T9.dp] at hd9
      have hlast := r9.ok.lasts
      have hlen := r9.len.1
      obtain ⟨da, dcap, -, d1, d2, -, -, hrow9, -⟩ := r9.open
      have k1 := cell_regrown d1
      have k2 := cell_regrown d2
      have q1 := hide (fun d os => Calls.regrown_of ((sameLines3_calls (.slice xa S.D.lines.length xc) (.slice da S.D.lines.length dcap) S.D.lines S.D.lines (grow (redrawn w9 d) os) (X9.below (below_regrown w9 d os)) ((IsStrs.of_row hrow9).below (below_regrown w9 d os)) hlen hlen).mono (fun e w' (h : _ ∧ ∃ n, w' = _) => (⟨h.1, by obtain ⟨n, hn⟩ := h.2; rw [hn]; exact drewsB _ n⟩ : e = .returned (.bool (decide (S.D.lines = S.D.lines))) ∧ Below (grow (redrawn w9 d) os).heap.size (grow (redrawn w9 d) os) w'))))
      have q2 := hide (fun d os => Calls.regrown_of ((diskWaits_to w.heap.size p m'.dg S.D ((S.D.lines.length : Int) - (S.D.lasts : Int)) rfl (grow (redrawn w9 d) os) (hd9.new (below_regrown w9 d os))).mono (fun e w' (h : _ ∧ ∃ n, w' = _) => (⟨h.1, by obtain ⟨n, hn⟩ := h.2; rw [hn]; exact drewsB _ n⟩ : e = .returned (.int .i64 ((S.D.lines.length : Int) - (S.D.lasts : Int))) ∧ Below (grow (redrawn w9 d) os).heap.size (grow (redrawn w9 d) os) w'))))
      have q3 := hide (fun d os => Calls.regrown_of (lawSame_calls _ _ _ r q gr9 m' S (grow (redrawn w9 d) os) (T9.seg.keep (below_regrown w9 d os)) (T9.rs.keep (below_regrown w9 d os)) (r9.new (below_regrown w9 d os)) hslots))
      rw [decide_eq_true rfl] at q1
      clear T9 X9 r9 hd9 d1 d2 hrow9 hfew hslots Hv Hwl hm hcap hDl
      generalize S.D.lines.length = n at *
      generalize S.D.lasts = y at *
      go_wp2_with fail
      refine wp_region_quiet_below (by kernel_rfl) (by kernel_rfl) ?_
      first | go_big_quiet_step (fail) | quiet_step (fail)
      first | go_big_quiet_step (fail) | quiet_step (fail)
      first | go_big_quiet_step (fail) | quiet_step (fail)
      first | go_big_quiet_step (fail) | quiet_step (fail)
      first | go_big_quiet_step (fail) | quiet_step (fail)
      first | go_big_quiet_step (fail) | quiet_step (fail)
      first | go_big_quiet_step (fail) | quiet_step (fail)
      first | go_big_quiet_step (exact q1.out _ _) | quiet_step (exact q1.out _ _)
      first | go_big_quiet_step (fail) | quiet_step (fail)
      first | go_big_quiet_step (fail) | quiet_step (fail)
      first | go_big_quiet_step (fail) | quiet_step (fail)
      first | go_big_quiet_step (exact q2.out _ _) | quiet_step (exact q2.out _ _)
      first | go_big_quiet_step (fail) | quiet_step (fail)
      first | go_big_quiet_step (fail) | quiet_step (fail)
      first | go_big_quiet_step (fail) | quiet_step (fail)
      first | go_big_quiet_step (fail) | quiet_step (fail)
      first | go_big_quiet_step (fail) | quiet_step (fail)
      first | go_big_quiet_step (fail) | quiet_step (fail)
      first | go_big_quiet_step (fail) | quiet_step (fail)
      first | go_big_quiet_step (fail) | quiet_step (fail)
      first | go_big_quiet_step (fail) | quiet_step (fail)
      first | go_big_quiet_step (fail) | quiet_step (fail)
      first | go_big_quiet_step (fail) | quiet_step (fail)
      first | go_big_quiet_step (fail) | quiet_step (fail)
      first | go_big_quiet_step (fail) | quiet_step (fail)
      first | go_big_quiet_step (fail) | quiet_step (fail)
      first | go_big_quiet_step (fail) | quiet_step (fail)
      first | go_big_quiet_step (fail) | quiet_step (fail)
      first | go_big_quiet_step (fail) | quiet_step (fail)
      first | go_big_quiet_step (fail) | quiet_step (fail)
      first | go_big_quiet_step (fail) | quiet_step (fail)
      first | go_big_quiet_step (fail) | quiet_step (fail)
      first | go_big_quiet_step (fail) | quiet_step (fail)
      first | go_big_quiet_step (fail) | quiet_step (fail)
      first | go_big_quiet_step (fail) | quiet_step (fail)
      first | go_big_quiet_step (exact q3.out _ _) | quiet_step (exact q3.out _ _)
      first | go_big_quiet_step (fail) | quiet_step (fail)
      first | go_big_quiet_step (fail) | quiet_step (fail)
      refine wpQuiet_nil ?_
      intro _ hw'
      obtain ⟨⟨dq, osq⟩, hw''⟩ := hw'
      subst hw''
      go_wp2_with fail
      go_ret
      exact ⟨rfl, B9.out.trans ((below_regrown _ dq osq).mono B9.out.size)⟩

end Go.Proofs.YtncmocmmkbmmjaaGreatDoor
