/- Own work: the parts G8, G9, G4, G10, G11, G12 of the proof, laid together. -/
import Derived.Test.YtjbjjfndkpcciaaGreatDoorPartLogStripes13
import Derived.Test.YtjbjjfndkpcciaaGreatDoorPartLogStripes2
/- A log's advance. Own work; no statement. -/
set_option linter.unusedSimpArgs false
set_option linter.unusedVariables false
namespace Go.Proofs.YtjbjjfndkpcciaaGreatDoor
open Go.RowKit Go.Shelf Go.Sort

/-- Does a position last? -/
def LogD.lasts (L : LogD) (pos : Int) : Bool := lastsS (L.at pos) pos
/-- From a on up to b all lasts, b does not. -/
structure LogD.Adv (L : LogD) (a b : Int) : Prop where
  le : a ≤ b
  all : ∀ p, a ≤ p → p < b → L.lasts p = true
  stop : L.lasts b = false

/-- What the walks ask of a log: its map is one, its segments are eight. -/
structure LogD.Fit (L : LogD) : Prop where
  eight : L.segs.length = 8
  ok : okMap L.map = true
  few : L.map.length ≤ 1048577

theorem LogD.Fit.k8 {L : LogD} (h : L.Fit) {pos : Int} (h0 : 0 ≤ pos) : L.k pos < 8 ∧ (findM L.map pos).2.1 = (L.k pos : Int) := by
  have he := epochM_pos (pos := pos) h.ok h0 L.map.length (okMap_pos h.ok)
  have hel := epochM_le L.map pos L.map.length
  have hN := okMap_get h.ok (epochM L.map pos L.map.length - 1) (by omega)
  have hg : L.map.getD (epochM L.map pos L.map.length - 1) (0, 0) = L.map[epochM L.map pos L.map.length - 1]'(by omega) := by rw [List.getD_eq_getElem?_getD, List.getElem?_eq_getElem (by omega)]; rfl
  unfold LogD.k findM
  rw [if_pos ⟨h0, h.ok⟩]
  dsimp only
  rw [hg]
  generalize L.map[epochM L.map pos L.map.length - 1]'(by omega) = x at *
  have h1 := Int.emod_nonneg (pos - x.1) (show x.2 ≠ 0 by omega)
  have h2 := Int.emod_lt_of_pos (pos - x.1) (show 0 < x.2 by omega)
  omega
theorem LogD.Fit.at {L : LogD} (h : L.Fit) {pos : Int} (h0 : 0 ≤ pos) : L.segs[L.k pos]? = some (L.at pos) := by
  have := (h.k8 h0).1
  have h8 := h.eight
  unfold LogD.at
  rw [List.getD_eq_getElem?_getD, List.getElem?_eq_getElem (by omega)]
  rfl
theorem IsLog.segFit {w : World} {B : Nat} {m : LogM} {L : LogD} (h : IsLog w B m L) (hf : L.Fit) (hu : ∀ S ∈ L.segs, S.ok) {pos : Int} (h0 : 0 ≤ pos) : ∃ s, m.ss[L.k pos]? = some s ∧ IsSeg w B s (L.at pos) := by
  obtain ⟨s, S, h1, h2, h3⟩ := h.segs.at (k := L.k pos) (by rw [h.n8]; exact (hf.k8 h0).1)
  rw [hf.at h0] at h2
  cases h2
  exact ⟨s, h1, h3.seg (hu _ (List.mem_of_getElem? (hf.at h0)))⟩
theorem IsLog.fit {w : World} {B : Nat} {m : LogM} {L : LogD} (h : IsLog w B m L) (hf : L.fm) : L.Fit := ⟨hf.eight, hf.ok, (h.few hf).2⟩

set_option maxHeartbeats 1000000 in
theorem logAtF_calls (B : Nat) (m : LogM) (L : LogD) (pos : Int) (s : SegM) (w : World) (hd : IsLog w B m L) (hf : L.Fit) (h0 : 0 ≤ pos) (h1 : pos ≤ 9223372036854775807) (hs : m.ss[L.k pos]? = some s) :
    Calls Tryz.prog 65 #[.pointer (some ⟨m.p, 0, none⟩), .int .i64 pos] w fun e w' => e = .returned (.pointer (some ⟨s.p, 0, none⟩)) ∧ Below w.heap.size w w' := by
  have hfew := hf.few
  obtain ⟨vs, vg, r1, -, -, c9, -, -, -, -, -, -, -⟩ := hd.cells
  obtain ⟨a, cap, rfl⟩ := ownsRow_slice r1
  have C := hide (mapFind_calls _ L.map pos w (OwnsM.map r1) (by omega) h1)
  obtain ⟨hk, hke⟩ := hf.k8 h0
  have hc := hd.segCell hs
  have hlt := hd.lt
  obtain ⟨e, k, e', hx⟩ : ∃ e k e', findM L.map pos = (e, k, e') := ⟨_, _, _, rfl⟩
  rw [hx] at C hke
  dsimp only at C hke
  subst hke
  generalize L.k pos = k at *
  have hkI : (k : Int) < 8 := by omega
  clear hd r1 hs hx hfew hf
  go_enter Tryz.func65, Tryz.ntmps65
  go_wp2_with fail
  refine C.out.mono ?_
  rintro x w1 ⟨rfl, hB⟩
  have hc1 := (hB.cell (p := ⟨m.p, 1 + k, none⟩) hlt).trans hc
  go_wp2_with fail
  go_ret
  exact ⟨rfl, hB⟩

set_option maxHeartbeats 1000000 in
set_option maxRecDepth 100000 in
theorem advance_calls (B : Nat) (m : LogM) (L : LogD) (h' : Int) (w : World) (hd : IsLog w B m L) (hf : L.Fit) (hs : ∀ S ∈ L.segs, S.ok) (h0 : 0 ≤ L.head) (ha : L.Adv L.head h') (hh : h' ≤ 2147483648) :
    Calls Tryz.prog 69 #[.pointer (some ⟨m.p, 0, none⟩)] w fun e w' => e = .returned (.tuple #[]) ∧ IsLog w' B m { L with head := h' } ∧ Touch m.on w w' := by
  have hle := ha.le
  go_enter Tryz.func69, Tryz.ntmps69
  go_wp2_with fail
  go_step3
  go_wp2_with fail
  go_step3
  go_wp2_with fail
  go_loopw [9] (fun x wr => ∃ h, L.head ≤ h ∧ h ≤ h' ∧ IsLog wr B m { L with head := h } ∧ Touch m.on w wr) (fun x wr => (h' - intOf ((wr.cell? ⟨m.p, 13, none⟩).getD undef)).toNat)
  case atStart => exact ⟨L.head, Int.le_refl _, hle, hd, Touch.refl _ w⟩
  case round =>
    obtain ⟨h, h1, h2, hI, hT⟩ := hrel
    clear hd
    obtain ⟨vs, vg, -, -, -, -, -, -, -, c13, -, fz, -⟩ := hI.cells
    dsimp only at c13
    have f13 := fz 13
    have C13 := hide c13
    obtain ⟨s, hss, hS⟩ := hI.segFit (L := { L with head := h }) ⟨hf.eight, hf.ok, hf.few⟩ hs (pos := h) (by omega)
    have Q1 := hide (fun d os => Calls.regrown_of (logAtF_calls B m { L with head := h } h s (grow (redrawn wr d) os) (hI.keep (below_regrown wr d os)) ⟨hf.eight, hf.ok, hf.few⟩ (by omega) (by omega) hss))
    have Q2 := hide (fun d os => Calls.regrown_of ((lasts_calls B s (L.at h) h (grow (redrawn wr d) os) (hS.keep (below_regrown wr d os))).mono fun e w'' ⟨he, n, hn⟩ => (⟨he, hn ▸ drewsB _ n⟩ : _ ∧ Below _ _ _)))
    have q13 := cell_regrown c13
    have I := hide hI
    have T := hide hT
    have Ha := hide ha
    obtain ⟨b, hb⟩ : ∃ b, lastsS (L.at h) h = b := ⟨_, rfl⟩
    rw [hb] at Q2
    have Hb := hide hb
    clear hI hT hS hss ha hf hs fz hb
    cases b with
    | true =>
      have hlt : h < h' := by
        rcases Int.lt_or_eq_of_le h2 with h3 | h3
        · exact h3
        · have := Ha.out.stop
          rw [← h3] at this
          unfold LogD.lasts at this
          rw [Hb.out] at this
          cases this
      have ho : ¬ h + 1 > 9223372036854775807 := by omega
      go_wp2_with fail
      refine wp_region_quiet_below (by kernel_rfl) (by kernel_rfl) ?_
      first | go_big_quiet_step (fail) | quiet_step (fail)
      first | go_big_quiet_step (fail) | quiet_step (fail)
      first | go_big_quiet_step (fail) | quiet_step (fail)
      first | go_big_quiet_step (fail) | quiet_step (fail)
      first | go_big_quiet_step (fail) | quiet_step (fail)
      first | go_big_quiet_step (exact Q1.out _ _) | quiet_step (exact Q1.out _ _)
      first | go_big_quiet_step (fail) | quiet_step (fail)
      first | go_big_quiet_step (fail) | quiet_step (fail)
      first | go_big_quiet_step (fail) | quiet_step (fail)
      first | go_big_quiet_step (fail) | quiet_step (fail)
      first | go_big_quiet_step (exact Q2.out _ _) | quiet_step (exact Q2.out _ _)
      first | go_big_quiet_step (fail) | quiet_step (fail)
      refine wpQuiet_nil ?_
      intro w2 hw'
      have b2 : Below wr.heap.size wr w2 := by
        obtain ⟨⟨dq, osq⟩, rfl⟩ := hw'
        exact below_regrown wr dq osq
      have I2 := I.out.keep b2
      obtain ⟨vs2, vg2, -, -, -, -, -, -, -, d13, -, fz2, -⟩ := I2.cells
      dsimp only at d13
      have g13 := fz2 13
      obtain ⟨I3, T3⟩ := I2.set_head (h + 1)
      have HI := hide I3
      have HT := hide (T.out.trans ((touch_new b2).trans T3))
      clear hw' c13 f13 q13 Q1 Q2 I2 T3 I3 fz2
      go_wp2_with fail
      have e13 : ((w2.setCell ⟨m.p, 13, none⟩ (.int .i64 (h + 1))).cell? ⟨m.p, 13, none⟩) = some (.int .i64 (h + 1)) := by
        obtain ⟨_, _, -, -, -, -, -, -, -, k13, -, -, -⟩ := HI.out.cells
        exact k13
      refine ⟨⟨h + 1, by omega, by omega, HI.out, HT.out⟩, ?_⟩
      rw [e13, C13.out]
      simp [intOf]
      omega
    | false =>
      have heq : Hid (h = h') := by
        refine hide ?_
        rcases Int.lt_or_eq_of_le h2 with h3 | h3
        · have := Ha.out.all h h1 h3
          unfold LogD.lasts at this
          rw [Hb.out] at this
          cases this
        · exact h3
      go_wp2_with fail
      refine wp_region_quiet_below (by kernel_rfl) (by kernel_rfl) ?_
      first | go_big_quiet_step (fail) | quiet_step (fail)
      first | go_big_quiet_step (fail) | quiet_step (fail)
      first | go_big_quiet_step (fail) | quiet_step (fail)
      first | go_big_quiet_step (fail) | quiet_step (fail)
      first | go_big_quiet_step (fail) | quiet_step (fail)
      first | go_big_quiet_step (exact Q1.out _ _) | quiet_step (exact Q1.out _ _)
      first | go_big_quiet_step (fail) | quiet_step (fail)
      first | go_big_quiet_step (fail) | quiet_step (fail)
      first | go_big_quiet_step (fail) | quiet_step (fail)
      first | go_big_quiet_step (fail) | quiet_step (fail)
      first | go_big_quiet_step (exact Q2.out _ _) | quiet_step (exact Q2.out _ _)
      first | go_big_quiet_step (fail) | quiet_step (fail)
      refine wpQuiet_nil ?_
      intro w2 hw'
      have b2 : Below wr.heap.size wr w2 := by
        obtain ⟨⟨dq, osq⟩, rfl⟩ := hw'
        exact below_regrown wr dq osq
      have HI := hide (I.out.keep b2)
      have HT := hide (T.out.trans (touch_new b2))
      obtain rfl := heq.out
      clear hw' c13 f13 q13 Q1 Q2
      go_wp2_with fail
      go_end0
      exact ⟨rfl, HI.out, HT.out⟩

end Go.Proofs.YtjbjjfndkpcciaaGreatDoor

/- A log's Sync, fall, Crash. Own work; no statement. -/
set_option linter.unusedSimpArgs false
set_option linter.unusedVariables false
namespace Go.Proofs.YtjbjjfndkpcciaaGreatDoor
open Go.RowKit Go.Shelf Go.Sort

/-- A segment is synced. -/
def syncD (S : SegD) : SegD := { S with D := ⟨S.D.room, S.D.lines, S.D.lines.length⟩ }
def LogD.syncB (L : LogD) (k : Int) : Bool := if L.down = true ∨ k < 0 ∨ 8 ≤ k then false else decide ((L.segs.getD k.toNat noSeg).D.lasts < (L.segs.getD k.toNat noSeg).D.lines.length)
/-- A log one of whose segments is synced, its head there. -/
def LogD.syncS (L : LogD) (k : Nat) (h' : Int) : LogD := { L with segs := L.segs.set k (syncD (L.segs.getD k noSeg)), head := h' }

theorem syncD_ok {S : SegD} (h : S.ok) : (syncD S).ok := ⟨h.rising, h.each, h.sealed0, h.sealed1, h.trim0, h.trim1, h.few⟩
theorem segSync_goes (B : Nat) (m : SegM) (S : SegD) (w : World) (hI : IsSeg w B m S) :
    Calls Tryz.prog 68 #[.pointer (some ⟨m.dp, 0, none⟩)] w fun x w' => x = .returned (.tuple #[]) ∧ Goes B m (syncD S) w w' :=
  (diskSync_calls _ _ _ _ w hI.disk).mono fun x w' ⟨h1, h2, h3⟩ => by
    obtain ⟨I3, T3, N3⟩ := hI.disk_goes h2 h3 hI.ok.few (fun k hk => .inl hk)
    exact ⟨h1, _, rfl, rfl, rfl, I3, T3, N3⟩

set_option maxHeartbeats 1000000 in
set_option maxRecDepth 100000 in
theorem logSync_not (B : Nat) (m : LogM) (L : LogD) (k : Int) (w : World) (hd : IsLog w B m L) (hk : L.down = true ∨ k < 0 ∨ 8 ≤ k) :
    Calls Tryz.prog 19 #[.pointer (some ⟨m.p, 0, none⟩), .int .i64 k] w fun e w' => e = .returned (.bool false) ∧ w' = w := by
  obtain ⟨vs, vg, -, -, -, -, c10, -, -, -, -, -, -⟩ := hd.cells
  clear hd
  by_cases h1 : L.down = true
  · rw [h1] at c10
    go_enter Tryz.func19, Tryz.ntmps19
    go_wp2_with fail
    go_ret
    exact ⟨rfl, rfl⟩
  · have h1' : L.down = false := by simpa using h1
    rw [h1'] at c10
    by_cases h2 : k < 0
    · clear hk
      go_enter Tryz.func19, Tryz.ntmps19
      go_wp2_with fail
      go_ret
      exact ⟨rfl, rfl⟩
    · have h3 : 8 ≤ k := by
        rcases hk with h | h | h
        · exact absurd h h1
        · exact absurd h h2
        · exact h
      clear hk
      go_enter Tryz.func19, Tryz.ntmps19
      go_wp2_with fail
      go_ret
      exact ⟨rfl, rfl⟩

set_option maxHeartbeats 2000000 in
set_option maxRecDepth 100000 in
/-- A stripe where something waits, or nothing. -/
theorem logSync_calls (B : Nat) (m : LogM) (L : LogD) (k : Nat) (h' : Int) (w : World) (hd : IsLog w B m L) (hB : B ≤ w.heap.size) (hf : L.Fit) (hu : L.down = false) (hok : ∀ S ∈ L.segs, S.ok) (hk : k < 8) (h0 : 0 ≤ L.head) (hh : h' ≤ 2147483648)
    (ha : (L.segs.getD k noSeg).D.lasts < (L.segs.getD k noSeg).D.lines.length → (L.syncS k h').Adv L.head h') (hn : ¬ (L.segs.getD k noSeg).D.lasts < (L.segs.getD k noSeg).D.lines.length → L.syncS k h' = L) :
    Calls Tryz.prog 19 #[.pointer (some ⟨m.p, 0, none⟩), .int .i64 (k : Int)] w fun e w' => e = .returned (.bool (decide ((L.segs.getD k noSeg).D.lasts < (L.segs.getD k noSeg).D.lines.length))) ∧ LogGoes B m (L.syncS k h') w w' := by
  obtain ⟨vs, vg, -, -, -, -, c10, -, -, -, -, -, -⟩ := hd.cells
  rw [hu] at c10
  obtain ⟨s, S, hs, hS, hX⟩ := hd.segs.at (k := k) (by rw [hd.n8]; exact hk)
  have hI := hX.seg (hok S (List.mem_of_getElem? hS))
  have hg : L.segs.getD k noSeg = S := by rw [List.getD_eq_getElem?_getD, hS]; rfl
  rw [hg] at ha hn ⊢
  have hc := hd.segCell hs
  have hkI : (k : Int) < 8 := by omega
  have C1 := hide (segDisk_calls B s S w hI)
  have C2 := hide (diskWaits_calls B s.dp s.dg S.D w hI.disk)
  have C3 := hide (fun W (h : Below w.heap.size w W) => segSync_goes B s S W (hI.keep h))
  have hlast := hI.disk.ok.lasts
  have Hd := hide hd
  have Ha := hide ha
  have Hn := hide hn
  have Hs := hide hs
  have Hok := hide hok
  have HSm := hide hS
  have hlt := hd.lt
  clear hd ha hn hs hS hX hI hok
  generalize hln : S.D.lines.length = n at *
  generalize hll : S.D.lasts = l at *
  by_cases hw : l < n
  · rw [decide_eq_true hw]
    have hne : ((n : Int) - (l : Int) == 0) = false := by simp; omega
    clear hg
    go_enter Tryz.func19, Tryz.ntmps19
    go_wp2_with (go_at_call 45; refine C1.out.mono ?_; rintro e w' ⟨rfl, hw'⟩; subst hw')
    refine C2.out.mono ?_
    rintro e w2 ⟨rfl, nq, hw2⟩
    have b2 : Below w'.heap.size w' w2 := by rw [hw2]; exact drewsB _ _
    clear hw2
    go_wp2_with fail
    refine (C3.out w2 b2).mono ?_
    rintro e w3 ⟨rfl, g3⟩
    obtain ⟨m5, hp5, I5, T5, N5⟩ := (Hd.out.keep b2).seg_goes Hs.out g3
    have hset : ({ L with segs := L.segs.set k (syncD S) } : LogD).Fit := ⟨by simp [hf.eight], hf.ok, hf.few⟩
    have hok5 : ∀ X ∈ ({ L with segs := L.segs.set k (syncD S) } : LogD).segs, X.ok := fun X hX => by
      obtain ⟨i, hi, rfl⟩ := List.mem_iff_getElem.1 hX
      rcases set_get (List.getElem?_eq_getElem hi) with ⟨-, e⟩ | ⟨-, e⟩
      · rw [e]; exact syncD_ok (Hok.out S (List.mem_of_getElem? HSm.out))
      · exact Hok.out _ (List.mem_of_getElem? e)
    have hSy : L.syncS k h' = { L with segs := L.segs.set k (syncD S), head := h' } := by
      unfold LogD.syncS
      rw [List.getD_eq_getElem?_getD, HSm.out]
      rfl
    have ha5 := Ha.out hw
    rw [hSy] at ha5
    have HSy := hide hSy
    have C5 := hide (advance_calls B m5 { L with segs := L.segs.set k (syncD S) } h' w3 I5 hset hok5 h0 ⟨ha5.le, ha5.all, ha5.stop⟩ hh)
    rw [hp5] at C5
    have HT := hide (T5.of_touch b2)
    have HN := hide N5
    have Hb2 := hide b2
    clear I5 T5 N5 hset hok5 hSy ha5 C1 C2 C3 g3 b2 hc c10
    go_wp2_with fail
    refine C5.out.mono ?_
    rintro e w4 ⟨rfl, I6, T6⟩
    have HI := hide I6
    have HT6 := hide T6
    clear I6 T6
    go_wp2_with fail
    go_ret
    rw [HSy.out]
    refine ⟨rfl, m5, hp5, HI.out, HT.out.next HT6.out fun x hx hm => ?_, fun x hx => (HN.out x hx).imp (fun h => h) fun h => Nat.le_trans Hb2.out.size h⟩
    rcases HN.out x hm with h | h
    · exact h
    · have := Hb2.out.size
      omega
  · rw [decide_eq_false hw]
    have hne : n = l := by omega
    have hn5 := Hn.out hw
    rw [hn5]
    clear hn5
    subst hne
    clear hg hw
    go_enter Tryz.func19, Tryz.ntmps19
    go_wp2_with (go_at_call 45; refine C1.out.mono ?_; rintro e w' ⟨rfl, hw'⟩; subst hw')
    refine C2.out.mono ?_
    rintro e w2 ⟨rfl, nq, hw2⟩
    have b2 : Below w'.heap.size w' w2 := by rw [hw2]; exact drewsB _ _
    have HG := hide (logGoes_same Hd.out b2)
    clear hw2 b2
    go_wp2_with fail
    go_ret
    exact ⟨rfl, HG.out⟩

set_option maxHeartbeats 2000000 in
set_option maxRecDepth 100000 in
/-- It falls: it knows its map, and nothing else. -/
theorem fall_calls (B : Nat) (m : LogM) (L : LogD) (w : World) (hd : IsLog w B m L) :
    Calls Tryz.prog 47 #[.pointer (some ⟨m.p, 0, none⟩)] w fun e w' => e = .returned (.tuple #[]) ∧ IsLog w' B m { L with trim := 0, gone := [], head := 0, next := 0, down := true } ∧ Touch m.on w w' := by
  obtain ⟨vs, vg, -, -, -, -, c10, c11, c12, c13, c14, fz, -⟩ := hd.cells
  obtain ⟨I1, T1⟩ := hd.set_trim 0
  obtain ⟨I2, T2⟩ := I1.set_gone (.slice none 0 0) [] (World.ownsRow_nil _ _ _ _)
  obtain ⟨I3, T3⟩ := I2.set_head 0
  obtain ⟨I4, T4⟩ := I3.set_next 0
  obtain ⟨I5, T5⟩ := I4.set_down true
  have HI := hide I5
  have HT := hide ((((T1.trans T2).trans T3).trans T4).trans T5)
  have f10 := fz 10
  have f11 := fz 11
  have f12 := fz 12
  have f13 := fz 13
  have f14 := fz 14
  clear hd I1 I2 I3 I4 I5 T1 T2 T3 T4 T5 fz
  go_enter Tryz.func47, Tryz.ntmps47
  go_wp2_with fail
  go_end0
  exact ⟨rfl, HI.out, HT.out⟩

end Go.Proofs.YtjbjjfndkpcciaaGreatDoor

/- maint's each: what is done to each segment, one by one. Own work; no statement. -/
set_option linter.unusedSimpArgs false
set_option linter.unusedVariables false
namespace Go.Proofs.YtjbjjfndkpcciaaGreatDoor
open Go.RowKit Go.Shelf

/-- Eight cells, those that there are yet, then none. -/
def fillV (l : List (Option Addr)) : List Value := [.pointer (l.getD 0 none), .pointer (l.getD 1 none), .pointer (l.getD 2 none), .pointer (l.getD 3 none), .pointer (l.getD 4 none), .pointer (l.getD 5 none), .pointer (l.getD 6 none), .pointer (l.getD 7 none)]
/-- Pointers to blocks. -/
def adrs (l : List Nat) : List (Option Addr) := l.map fun q => some ⟨q, 0, none⟩
theorem adrs_push (l : List Nat) (q : Nat) : adrs l ++ [some ⟨q, 0, none⟩] = adrs (l ++ [q]) := by simp [adrs]

theorem fill_push (l : List (Option Addr)) (v : Option Addr) (h : l.length < 8) : (fillV l).toArray.setIfInBounds l.length (.pointer v) = (fillV (l ++ [v])).toArray := by
  match l, h with
  | [], _ => rfl
  | [_], _ => rfl
  | [_, _], _ => rfl
  | [_, _, _], _ => rfl
  | [_, _, _, _], _ => rfl
  | [_, _, _, _, _], _ => rfl
  | [_, _, _, _, _, _], _ => rfl
  | [_, _, _, _, _, _, _], _ => rfl

theorem idx8 (v0 v1 v2 v3 v4 v5 v6 v7 : Value) (j : Nat) (h : j < 8) (w : World) :
    (Instr.index 83 (.agg #[v0, v1, v2, v3, v4, v5, v6, v7]) (.int .i64 (j : Int))).run Tryz.prog w = .ok ([v0, v1, v2, v3, v4, v5, v6, v7].getD j (.pointer none)) w := by
  match j, h with
  | 0, _ => simp [Instr.index, asIntOf, run_underlying Tryz.underlying83, go_sem]
  | 1, _ => simp [Instr.index, asIntOf, run_underlying Tryz.underlying83, go_sem]
  | 2, _ => simp [Instr.index, asIntOf, run_underlying Tryz.underlying83, go_sem]
  | 3, _ => simp [Instr.index, asIntOf, run_underlying Tryz.underlying83, go_sem]
  | 4, _ => simp [Instr.index, asIntOf, run_underlying Tryz.underlying83, go_sem]
  | 5, _ => simp [Instr.index, asIntOf, run_underlying Tryz.underlying83, go_sem]
  | 6, _ => simp [Instr.index, asIntOf, run_underlying Tryz.underlying83, go_sem]
  | 7, _ => simp [Instr.index, asIntOf, run_underlying Tryz.underlying83, go_sem]

/-- A box of eight segments. -/
abbrev Box8 (w : World) (b : Nat) (l : List (Option Addr)) : Prop := w.heap[b]? = some (.cells (fillV l).toArray 83 (0, 0))

def put8 (W : World) (b : Nat) (v0 v1 v2 v3 v4 v5 v6 v7 : Value) : World :=
  (((((((W.setCell ⟨b, 0, none⟩ v0).setCell ⟨b, 1, none⟩ v1).setCell ⟨b, 2, none⟩ v2).setCell ⟨b, 3, none⟩ v3).setCell ⟨b, 4, none⟩ v4).setCell ⟨b, 5, none⟩ v5).setCell ⟨b, 6, none⟩ v6).setCell ⟨b, 7, none⟩ v7
theorem put8_heap {W : World} {b : Nat} {x0 x1 x2 x3 x4 x5 x6 x7 : Value} {t : TypeId} {f : Nat × Nat} (h : W.heap[b]? = some (.cells #[x0, x1, x2, x3, x4, x5, x6, x7] t f)) (v0 v1 v2 v3 v4 v5 v6 v7 : Value) :
    (put8 W b v0 v1 v2 v3 v4 v5 v6 v7).heap[b]? = some (.cells #[v0, v1, v2, v3, v4, v5, v6, v7] t f) := by
  unfold put8
  have := setAt (j := 7) (setAt (j := 6) (setAt (j := 5) (setAt (j := 4) (setAt (j := 3) (setAt (j := 2) (setAt (j := 1) (setAt (j := 0) h v0) v1) v2) v3) v4) v5) v6) v7
  simpa using this
theorem put8_touch {W : World} {b : Nat} (v0 v1 v2 v3 v4 v5 v6 v7 : Value) : Touch (fun x => x = b) W (put8 W b v0 v1 v2 v3 v4 v5 v6 v7) :=
  have h : ∀ i, (fun x => x = b) (⟨b, i, none⟩ : Addr).block := fun _ => rfl
  ((((((((Touch.refl (fun x => x = b) W).set ⟨b, 0, none⟩ v0 (h 0)).set ⟨b, 1, none⟩ v1 (h 1)).set ⟨b, 2, none⟩ v2 (h 2)).set ⟨b, 3, none⟩ v3 (h 3)).set ⟨b, 4, none⟩ v4 (h 4)).set ⟨b, 5, none⟩ v5 (h 5)).set ⟨b, 6, none⟩ v6 (h 6)).set ⟨b, 7, none⟩ v7 (h 7)

theorem cells8 {W : World} {b : Nat} {x0 x1 x2 x3 x4 x5 x6 x7 : Value} {t : TypeId} (h : W.heap[b]? = some (.cells #[x0, x1, x2, x3, x4, x5, x6, x7] t (0, 0))) :
    (W.cell? ⟨b, 0, none⟩ = some x0 ∧ W.cell? ⟨b, 1, none⟩ = some x1 ∧ W.cell? ⟨b, 2, none⟩ = some x2 ∧ W.cell? ⟨b, 3, none⟩ = some x3 ∧ W.cell? ⟨b, 4, none⟩ = some x4 ∧ W.cell? ⟨b, 5, none⟩ = some x5 ∧ W.cell? ⟨b, 6, none⟩ = some x6 ∧ W.cell? ⟨b, 7, none⟩ = some x7) ∧
    W.frozen? ⟨b, 0, none⟩ = false ∧ W.frozen? ⟨b, 1, none⟩ = false ∧ W.frozen? ⟨b, 2, none⟩ = false ∧ W.frozen? ⟨b, 3, none⟩ = false ∧ W.frozen? ⟨b, 4, none⟩ = false ∧ W.frozen? ⟨b, 5, none⟩ = false ∧ W.frozen? ⟨b, 6, none⟩ = false ∧ W.frozen? ⟨b, 7, none⟩ = false :=
  ⟨⟨by simpa using cellsAt h 0, by simpa using cellsAt h 1, by simpa using cellsAt h 2, by simpa using cellsAt h 3, by simpa using cellsAt h 4, by simpa using cellsAt h 5, by simpa using cellsAt h 6, by simpa using cellsAt h 7⟩, frozenAt h _, frozenAt h _, frozenAt h _, frozenAt h _, frozenAt h _, frozenAt h _, frozenAt h _, frozenAt h _⟩

/-- What holds still holds where a box of segments turns. -/
def Still (b : Nat) (J : World → Prop) : Prop := ∀ W W' i c f, J W → b ≤ i → W.heap[i]? = some (.cells c 83 f) → Touch (fun x => x = i) W W' → J W'

set_option maxRecDepth 100000 in
set_option maxHeartbeats 4000000 in
theorem each_calls (gf : Nat) (lb : Array Value) (q0 q1 q2 q3 q4 q5 q6 q7 : Value) (w : World) (heg : ∀ args w, (callFunc gf args).run Tryz.prog w = .ok (.enter gf args) w)
    (J : Nat → List Nat → World → Prop) (Jx : Int → World → Prop) (hJ : ∀ k l, Still w.heap.size (J k l)) (hJx : ∀ E, Still w.heap.size (Jx E))
    (h0 : ∀ W, Below w.heap.size w W → J 0 [] W)
    (hdo : ∀ k l W, k < 8 → l.length = k → w.heap.size ≤ W.heap.size → J k l W → Calls Tryz.prog gf (#[[q0, q1, q2, q3, q4, q5, q6, q7].getD k (.pointer none)] ++ lb) W fun e W' => ∃ v E, e = .returned (.tuple #[.pointer v, .int .i64 E]) ∧ W.heap.size ≤ W'.heap.size ∧ (∀ (i : Nat) (c : Array Value) (f : Nat × Nat), W.heap[i]? = some (Obj.cells c 83 f) → W'.heap[i]? = W.heap[i]?) ∧ ((E = 0 ∧ ∃ q, v = some ⟨q, 0, none⟩ ∧ J (k + 1) (l ++ [q]) W') ∨ (E ≠ 0 ∧ Jx E W'))) :
    Calls Tryz.prog 87 #[.agg #[q0, q1, q2, q3, q4, q5, q6, q7], .func (.func gf) #[] lb] w fun e w' => ∃ l E, e = .returned (.tuple #[.agg (fillV l).toArray, .int .i64 E]) ∧ ((E = 0 ∧ ∃ qs, l = adrs qs ∧ qs.length = 8 ∧ J 8 qs w') ∨ (E ≠ 0 ∧ Jx E w')) := by
  have hidx := fun j h w => idx8 q0 q1 q2 q3 q4 q5 q6 q7 j h w
  obtain ⟨W3, hW3⟩ : ∃ W3, ((w.alloc (.cells #[q0, q1, q2, q3, q4, q5, q6, q7] 83)).alloc (.cells #[.pointer none, .pointer none, .pointer none, .pointer none, .pointer none, .pointer none, .pointer none, .pointer none] 83)).alloc (.cells #[.pointer none, .pointer none, .pointer none, .pointer none, .pointer none, .pointer none, .pointer none, .pointer none] 83) = W3 := ⟨_, rfl⟩
  have hs3 : W3.heap.size = w.heap.size + 3 := by rw [← hW3]; simp
  have hb3 : Below w.heap.size w W3 := by rw [← hW3]; exact (((Below.refl _ w).alloc (Nat.le_refl _) _).alloc (by simp) _).alloc (by simp; omega) _
  have x1 : Box8 W3 (w.heap.size + 1) [] := by
    rw [← hW3]
    have := World.alloc_heap_new (w.alloc (.cells #[q0, q1, q2, q3, q4, q5, q6, q7] 83)) (.cells #[.pointer none, .pointer none, .pointer none, .pointer none, .pointer none, .pointer none, .pointer none, .pointer none] 83)
    rw [World.size_alloc] at this
    exact (Below.heap_alloc _ _ _ (by simp)).trans this
  have x2 : Box8 W3 (w.heap.size + 2) [] := by
    rw [← hW3]
    have := World.alloc_heap_new ((w.alloc (.cells #[q0, q1, q2, q3, q4, q5, q6, q7] 83)).alloc (.cells #[.pointer none, .pointer none, .pointer none, .pointer none, .pointer none, .pointer none, .pointer none, .pointer none] 83)) (.cells #[.pointer none, .pointer none, .pointer none, .pointer none, .pointer none, .pointer none, .pointer none, .pointer none] 83)
    rw [World.size_alloc, World.size_alloc] at this
    exact this
  have j0 := h0 W3 hb3
  have HW := hide hW3
  clear hW3 h0 hb3
  go_enter Tryz.func87, Tryz.ntmps87
  go_wp2_with fail
  go_step3
  go_wp2_with fail
  go_step3
  go_wp2_with fail
  rw [HW.out]
  simp only [Nat.add_assoc, Nat.reduceAdd]
  go_loopw [7, 11] (fun e k wr => ∃ (j : Nat) (l : List Nat), j ≤ 8 ∧ l.length = j ∧ k = .int .i64 (j : Int) ∧ e = .int .i64 0 ∧ Box8 wr (w.heap.size + 1) [] ∧ Box8 wr (w.heap.size + 2) (adrs l) ∧ W3.heap.size ≤ wr.heap.size ∧ J j l wr) (fun e k _ => 8 - (intOf k).toNat)
  case atStart => exact ⟨0, [], by omega, rfl, rfl, rfl, x1, x2, Nat.le_refl _, j0⟩
  case round =>
    obtain ⟨j, l, hj, hl, rfl, rfl, y1, y2, hz, hJj⟩ := hrel
    clear x1 x2 j0
    by_cases hlt : j < 8
    · have hltI : (j : Int) < 8 := by omega
      have hix := fun w => hidx j hlt w
      have C := hide (hdo j l wr hlt hl (by omega) hJj)
      generalize [q0, q1, q2, q3, q4, q5, q6, q7].getD j (.pointer none) = qj at *
      clear hidx hJj hdo
      go_wp2_with fail
      refine C.out.mono ?_
      rintro e w2 ⟨v, E, rfl, hz2, hk, h⟩
      have y1' : Box8 w2 (w.heap.size + 1) [] := (hk _ _ _ y1).trans y1
      have y2' : Box8 w2 (w.heap.size + 2) (adrs l) := (hk _ _ _ y2).trans y2
      have d2 : ∃ u, w2.cell? ⟨w.heap.size + 2, j, none⟩ = some u := ⟨_, by rw [cellsAt y2' j, List.getElem?_toArray, List.getElem?_eq_getElem (by simp [fillV]; omega)]⟩
      obtain ⟨u, d2⟩ := d2
      have f2 := frozenAt y2' j
      have HJ := hide h
      clear hk h y1 y2 C
      by_cases hE : E = 0
      · subst hE
        go_wp2_with fail
        rcases HJ.out with ⟨-, q, rfl, hq⟩ | ⟨h, -⟩
        · have t4 : Touch (fun x => x = w.heap.size + 2) w2 (w2.setCell ⟨w.heap.size + 2, j, none⟩ (.pointer (some ⟨q, 0, none⟩))) := touch_set w2 _ _ rfl
          refine ⟨⟨j + 1, l ++ [q], by omega, by simp [hl], by go_num, rfl, (t4.block _ (ltAt y1') (by omega)).trans y1', ?_, by have := t4.size; omega, hJ _ _ w2 _ _ _ _ hq (by omega) y2' t4⟩, by simp [intOf]; omega⟩
          have := setAt (j := j) y2' (.pointer (some ⟨q, 0, none⟩))
          rw [show (fillV (adrs l)).toArray.setIfInBounds j (.pointer (some ⟨q, 0, none⟩)) = (fillV (adrs (l ++ [q]))).toArray by
            have hl2 : (adrs l).length = j := by simp [adrs, hl]
            rw [← hl2, fill_push _ _ (by omega), adrs_push]] at this
          exact this
        · exact absurd rfl h
      · have y3 : (w2.setCell ⟨w.heap.size + 2, j, none⟩ (.pointer v)).heap[w.heap.size + 2]? = some (.cells (fillV (adrs l ++ [v])).toArray 83 (0, 0)) := by
          have := setAt (j := j) y2' (.pointer v)
          rwa [show (fillV (adrs l)).toArray.setIfInBounds j (.pointer v) = (fillV (adrs l ++ [v])).toArray by
            have hl2 : (adrs l).length = j := by simp [adrs, hl]
            rw [← hl2, fill_push _ _ (by omega)]] at this
        have t4 : Touch (fun x => x = w.heap.size + 2) w2 (w2.setCell ⟨w.heap.size + 2, j, none⟩ (.pointer v)) := touch_set w2 _ _ rfl
        have y4 : (w2.setCell ⟨w.heap.size + 2, j, none⟩ (.pointer v)).heap[w.heap.size + 1]? = some (.cells (fillV []).toArray 83 (0, 0)) := (t4.block _ (ltAt y1') (by omega)).trans y1'
        obtain ⟨⟨c0, c1, c2, c3, c4, c5, c6, c7⟩, -⟩ := cells8 y3
        obtain ⟨⟨e0, e1, e2, e3, e4, e5, e6, e7⟩, g0, g1, g2, g3, g4, g5, g6, g7⟩ := cells8 y4
        generalize ha0 : (adrs l ++ [v]).getD 0 none = a0 at c0
        generalize ha1 : (adrs l ++ [v]).getD 1 none = a1 at c1
        generalize ha2 : (adrs l ++ [v]).getD 2 none = a2 at c2
        generalize ha3 : (adrs l ++ [v]).getD 3 none = a3 at c3
        generalize ha4 : (adrs l ++ [v]).getD 4 none = a4 at c4
        generalize ha5 : (adrs l ++ [v]).getD 5 none = a5 at c5
        generalize ha6 : (adrs l ++ [v]).getD 6 none = a6 at c6
        generalize ha7 : (adrs l ++ [v]).getD 7 none = a7 at c7
        have Y4 := hide y4
        have T4 := hide t4
        clear y3 y4 t4
        go_wp2_with fail
        rw [Exit.noGoto_ret]
        have e5 := put8_heap Y4.out (.pointer a0) (.pointer a1) (.pointer a2) (.pointer a3) (.pointer a4) (.pointer a5) (.pointer a6) (.pointer a7)
        have t5 := put8_touch (W := w2.setCell ⟨w.heap.size + 2, j, none⟩ (.pointer v)) (b := w.heap.size + 1) (.pointer a0) (.pointer a1) (.pointer a2) (.pointer a3) (.pointer a4) (.pointer a5) (.pointer a6) (.pointer a7)
        obtain ⟨W5, hW5⟩ : ∃ W5, put8 (w2.setCell ⟨w.heap.size + 2, j, none⟩ (.pointer v)) (w.heap.size + 1) (.pointer a0) (.pointer a1) (.pointer a2) (.pointer a3) (.pointer a4) (.pointer a5) (.pointer a6) (.pointer a7) = W5 := ⟨_, rfl⟩
        rw [hW5] at e5 t5
        unfold put8 at hW5
        rw [hW5]
        obtain ⟨⟨k0, k1, k2, k3, k4, k5, k6, k7⟩, -⟩ := cells8 e5
        have hfill : (fillV (adrs l ++ [v])).toArray = #[.pointer a0, .pointer a1, .pointer a2, .pointer a3, .pointer a4, .pointer a5, .pointer a6, .pointer a7] := by
          unfold fillV
          rw [ha0, ha1, ha2, ha3, ha4, ha5, ha6, ha7]
        refine bodyPost_ret (v := .tuple #[.agg #[.pointer a0, .pointer a1, .pointer a2, .pointer a3, .pointer a4, .pointer a5, .pointer a6, .pointer a7], .int .i64 E]) (by simp [results, Tryz.f87, go_sem, k0, k1, k2, k3, k4, k5, k6, k7]) rfl ⟨adrs l ++ [v], E, by rw [hfill], ?_⟩
        rcases HJ.out with ⟨h, -⟩ | ⟨-, hx⟩
        · exact absurd h hE
        · exact .inr ⟨hE, hJx E _ _ _ _ _ (hJx E w2 _ _ _ _ hx (by omega) y2' T4.out) (by omega) Y4.out t5⟩
    · obtain rfl : j = 8 := by omega
      obtain ⟨⟨c0, c1, c2, c3, c4, c5, c6, c7⟩, -⟩ := cells8 y2
      obtain ⟨⟨e0, e1, e2, e3, e4, e5, e6, e7⟩, g0, g1, g2, g3, g4, g5, g6, g7⟩ := cells8 y1
      have HJ := hide hJj
      have Hl := hide hl
      generalize ha0 : (adrs l).getD 0 none = a0 at c0
      generalize ha1 : (adrs l).getD 1 none = a1 at c1
      generalize ha2 : (adrs l).getD 2 none = a2 at c2
      generalize ha3 : (adrs l).getD 3 none = a3 at c3
      generalize ha4 : (adrs l).getD 4 none = a4 at c4
      generalize ha5 : (adrs l).getD 5 none = a5 at c5
      generalize ha6 : (adrs l).getD 6 none = a6 at c6
      generalize ha7 : (adrs l).getD 7 none = a7 at c7
      have Y4 := hide y1
      clear hidx hdo y1 y2 hJj hl
      go_wp2_with fail
      rw [Exit.noGoto_ret]
      have e5 := put8_heap Y4.out (.pointer a0) (.pointer a1) (.pointer a2) (.pointer a3) (.pointer a4) (.pointer a5) (.pointer a6) (.pointer a7)
      have t5 := put8_touch (W := wr) (b := w.heap.size + 1) (.pointer a0) (.pointer a1) (.pointer a2) (.pointer a3) (.pointer a4) (.pointer a5) (.pointer a6) (.pointer a7)
      obtain ⟨W5, hW5⟩ : ∃ W5, put8 (wr) (w.heap.size + 1) (.pointer a0) (.pointer a1) (.pointer a2) (.pointer a3) (.pointer a4) (.pointer a5) (.pointer a6) (.pointer a7) = W5 := ⟨_, rfl⟩
      rw [hW5] at e5 t5
      unfold put8 at hW5
      rw [hW5]
      obtain ⟨⟨k0, k1, k2, k3, k4, k5, k6, k7⟩, -⟩ := cells8 e5
      have hfill : (fillV (adrs l)).toArray = #[.pointer a0, .pointer a1, .pointer a2, .pointer a3, .pointer a4, .pointer a5, .pointer a6, .pointer a7] := by
        unfold fillV
        rw [ha0, ha1, ha2, ha3, ha4, ha5, ha6, ha7]
      refine bodyPost_ret (v := .tuple #[.agg #[.pointer a0, .pointer a1, .pointer a2, .pointer a3, .pointer a4, .pointer a5, .pointer a6, .pointer a7], .int .i64 0]) (by simp [results, Tryz.f87, go_sem, k0, k1, k2, k3, k4, k5, k6, k7]) rfl ⟨adrs l, 0, by rw [hfill], ?_⟩
      exact .inl ⟨rfl, l, rfl, Hl.out, hJ _ _ _ _ _ _ _ HJ.out (by omega) Y4.out t5⟩

end Go.Proofs.YtjbjjfndkpcciaaGreatDoor

/- A log's Crash. Own work; no statement. -/
set_option linter.unusedSimpArgs false
set_option linter.unusedVariables false
namespace Go.Proofs.YtjbjjfndkpcciaaGreatDoor
open Go.RowKit Go.Shelf Go.Sort

theorem idx8p (p0 p1 p2 p3 p4 p5 p6 p7 : Nat) (j q : Nat) (h : [p0, p1, p2, p3, p4, p5, p6, p7][j]? = some q) (w : World) :
    (Instr.index 83 (.agg #[.pointer (some ⟨p0, 0, none⟩), .pointer (some ⟨p1, 0, none⟩), .pointer (some ⟨p2, 0, none⟩), .pointer (some ⟨p3, 0, none⟩), .pointer (some ⟨p4, 0, none⟩), .pointer (some ⟨p5, 0, none⟩), .pointer (some ⟨p6, 0, none⟩), .pointer (some ⟨p7, 0, none⟩)]) (.int .i64 (j : Int))).run Tryz.prog w = .ok (.pointer (some ⟨q, 0, none⟩)) w := by
  have hj := (List.getElem?_eq_some_iff.1 h).1
  rw [idx8 _ _ _ _ _ _ _ _ j (by simpa using hj)]
  congr 1
  match j, hj, h with
  | 0, _, h => cases h; rfl
  | 1, _, h => cases h; rfl
  | 2, _, h => cases h; rfl
  | 3, _, h => cases h; rfl
  | 4, _, h => cases h; rfl
  | 5, _, h => cases h; rfl
  | 6, _, h => cases h; rfl
  | 7, _, h => cases h; rfl

theorem eight_of {l : List Nat} (h : l.length = 8) : ∃ p0 p1 p2 p3 p4 p5 p6 p7, l = [p0, p1, p2, p3, p4, p5, p6, p7] := by
  match l, h with
  | [p0, p1, p2, p3, p4, p5, p6, p7], _ => exact ⟨_, _, _, _, _, _, _, _, rfl⟩

/-- The pointers to the segments, in a log's own cells. -/
theorem IsLog.cells8 {w : World} {B : Nat} {m : LogM} {L : LogD} (h : IsLog w B m L) : ∃ p0 p1 p2 p3 p4 p5 p6 p7, ptrs m.ss = [p0, p1, p2, p3, p4, p5, p6, p7] ∧
    w.cell? ⟨m.p, 1, none⟩ = some (.pointer (some ⟨p0, 0, none⟩)) ∧ w.cell? ⟨m.p, 2, none⟩ = some (.pointer (some ⟨p1, 0, none⟩)) ∧ w.cell? ⟨m.p, 3, none⟩ = some (.pointer (some ⟨p2, 0, none⟩)) ∧ w.cell? ⟨m.p, 4, none⟩ = some (.pointer (some ⟨p3, 0, none⟩)) ∧
    w.cell? ⟨m.p, 5, none⟩ = some (.pointer (some ⟨p4, 0, none⟩)) ∧ w.cell? ⟨m.p, 6, none⟩ = some (.pointer (some ⟨p5, 0, none⟩)) ∧ w.cell? ⟨m.p, 7, none⟩ = some (.pointer (some ⟨p6, 0, none⟩)) ∧ w.cell? ⟨m.p, 8, none⟩ = some (.pointer (some ⟨p7, 0, none⟩)) := by
  obtain ⟨vs, vg, hp, -⟩ := h.val
  obtain ⟨p0, p1, p2, p3, p4, p5, p6, p7, e⟩ := eight_of (l := ptrs m.ss) (by simp [ptrs, h.n8])
  rw [e] at hp
  exact ⟨p0, p1, p2, p3, p4, p5, p6, p7, e, by simpa [logCells, ptrV] using cellsAt hp 1, by simpa [logCells, ptrV] using cellsAt hp 2, by simpa [logCells, ptrV] using cellsAt hp 3, by simpa [logCells, ptrV] using cellsAt hp 4, by simpa [logCells, ptrV] using cellsAt hp 5, by simpa [logCells, ptrV] using cellsAt hp 6, by simpa [logCells, ptrV] using cellsAt hp 7, by simpa [logCells, ptrV] using cellsAt hp 8⟩

/-- A segment's disk has fallen. -/
def fellS (S : SegD) (keep : Int) : SegD := { S with D := crashD S.D keep }
def fellAll (keep : List Int) (Ss : List SegD) : List SegD := Ss.mapIdx fun i S => fellS S (geti keep (i : Int))
def LogD.crash (L : LogD) (keep : List Int) : LogD := { L with segs := fellAll keep L.segs, trim := 0, gone := [], head := 0, next := 0, down := true }

theorem segDiskX_calls (B : Nat) (m : SegM) (S : SegD) (w : World) (hd : IsSegX w B m S) :
    Calls Tryz.prog 45 #[.pointer (some ⟨m.p, 0, none⟩)] w fun e w' => e = .returned (.pointer (some ⟨m.dp, 0, none⟩)) ∧ w' = w := by
  obtain ⟨v, qs, -, -, hp, -, -⟩ := hd.val
  obtain ⟨c0, -, -, -, -, -, -, -⟩ := cells4 hp
  unfold ptrV at c0
  clear hd hp
  go_enter Tryz.func45, Tryz.ntmps45
  go_wp2_with fail
  go_ret
  exact ⟨rfl, rfl⟩

/-- A segment whose disk has fallen, in memory. -/
theorem IsSegX.fell {w w' : World} {B : Nat} {m : SegM} {S : SegD} {D : DiskD} (h : IsSegX w B m S) (hd : IsDisk w' B m.dp m.dg D) (t : Touch (onDisk m.dp m.dg) w w') : IsSegX w' B m { S with D := D } := by
  obtain ⟨v, qs, hv, hl, hp, hr, hs⟩ := h.val
  have hoff : ∀ k, onDisk m.dp m.dg k → k ≠ m.p ∧ m.sg ≠ some k := fun k hk => by
    obtain ⟨c, ty, e, ht⟩ := h.disk.types hk
    refine ⟨fun e' => ?_, fun e' => row_not hr e (by rcases ht with rfl | rfl <;> decide) (by rw [hv, e'])⟩
    subst e'
    rw [hp] at e
    simp only [Option.some.injEq, Obj.cells.injEq] at e
    obtain ⟨-, rfl, -⟩ := e
    rcases ht with h | h <;> exact absurd h (by decide)
  refine ⟨h.few, h.low, Nat.le_trans h.cl t.size, hd, v, qs, hv, hl, ?_, ?_, fun i h1 h2 => (hs i h1 h2).keep fun k c ty e hty => t.block k (ltAt e) fun hk => ?_⟩
  · exact (t.block _ (ltAt hp) fun hk => (hoff _ hk).1 rfl).trans hp
  · exact ownsRow_of_heap hr fun k hk => t.block k (hr.lt k hk).2 fun e => (hoff k e).2 (hv.symm.trans hk)
  · have := h.disk.firm k hk _ _ _ e
    rcases hty with e | e
    · exact this.1 e
    · exact this.2.1 e

theorem set_self {α : Type} {l : List α} {k : Nat} {x : α} (h : l[k]? = some x) : l.set k x = l := by
  apply List.ext_getElem?
  intro i
  rw [List.getElem?_set]
  split
  · rename_i e
    subst e
    rw [if_pos (List.getElem?_eq_some_iff.1 h).1, h]
  · rfl
theorem IsLog.seg_fell {w w' : World} {B : Nat} {m : LogM} {L : LogD} (h : IsLog w B m L) {k : Nat} {s : SegM} {S : SegD} {D : DiskD} (hs : m.ss[k]? = some s) (hS : L.segs[k]? = some S) (hd : IsDisk w' B s.dp s.dg D) (t : Touch (onDisk s.dp s.dg) w w') :
    IsLog w' B m { L with segs := L.segs.set k { S with D := D } } ∧ Touch m.on w w' := by
  have hX := h.segs.seg k s S hs hS
  have hsub : ∀ x, onDisk s.dp s.dg x → s.on x := fun x hx => .inr (.inr hx)
  have h1 := h.segs.set hs t (fun x hx c ty f e => hX.firm x (hsub x hx) c ty f e) (fun i n hi hne x hx hx' => h.segs.apart i k n s hi hs hne x hx (hsub x hx')) (hX.fell hd t) (fun x hx => .inl hx)
  rw [set_self hs] at h1
  exact ⟨h.segs_go h1 h.n8 rfl t (fun x hx => ⟨k, s, hs, hsub x hx⟩) (fun x hx => .inl hx), t.mono fun x _ hx => .inr (.inr ⟨k, s, hs, hsub x hx⟩)⟩
theorem IsLog.own_fell {w w' : World} {B : Nat} {m : LogM} {L : LogD} (h : IsLog w B m L) (hd : IsDisk w' B m.dp m.dg L.own) (t : Touch (onDisk m.dp m.dg) w w') : IsLog w' B m L ∧ Touch m.on w w' := by
  obtain ⟨vs, vg, hp, h1, h2⟩ := h.val
  have hF : Firm w (onDisk m.dp m.dg) := h.own.firm
  exact ⟨⟨h.low, hd, h.n8, h.segs.touch t hF fun x hx hx' => h.off x hx' hx, h.off, vs, vg, (t.block _ (ltAt hp) h.offp.1).trans hp, row_firm h1 t hF span_firm, row_firm h2 t hF int_firm⟩, t.mono fun x _ hx => .inr (.inl hx)⟩
/-- All lasts on the own disk: a fall takes nothing. -/
theorem own_crash (L : LogD) (keep : Int) : crashD L.own keep = L.own := crash_all (by unfold LogD.own; simp) keep

set_option maxHeartbeats 4000000 in
set_option maxRecDepth 100000 in
theorem logCrash_calls (B : Nat) (m : LogM) (L : LogD) (vk : Value) (keep : List Int) (w : World) (hd : IsLog w B m L) (h8 : L.segs.length = 8) (hB : B ≤ w.heap.size) (hv : ∀ W, Below B w W → IsNums .i64 W vk keep) (hl : keep.length ≤ 1099511627776) (hk : ∀ x ∈ keep, -9223372036854775808 ≤ x ∧ x ≤ 9223372036854775807) :
    Calls Tryz.prog 14 #[.pointer (some ⟨m.p, 0, none⟩), vk] w fun e w' => e = .returned (.tuple #[]) ∧ IsLog w' B m (L.crash keep) ∧ Touch m.on w w' := by
  obtain ⟨p0, p1, p2, p3, p4, p5, p6, p7, hps, c1, c2, c3, c4, c5, c6, c7, c8⟩ := hd.cells8
  obtain ⟨ka, kc, rfl, -, -⟩ := hv w (Below.refl _ w)
  have Hd := hide hd
  have Hps := hide hps
  have hlt := hd.lt
  clear hd hps
  go_enter Tryz.func14, Tryz.ntmps14
  go_wp2_with fail
  go_step3
  go_wp2_with fail
  go_step3
  go_wp2_with fail
  go_loopw [10] (fun x wr => ∃ (j : Nat) (Ss : List SegD), j ≤ 8 ∧ x = .int .i64 (j : Int) ∧ Ss.length = 8 ∧ (∀ i S, L.segs[i]? = some S → Ss[i]? = some (if i < j then fellS S (geti keep (i : Int)) else S)) ∧ IsLog wr B m { L with segs := Ss } ∧ Touch m.on w wr ∧ Below B w wr) (fun x _ => 8 - (intOf x).toNat)
  case atStart => exact ⟨0, L.segs, by omega, rfl, h8, fun i S h => by rw [if_neg (by omega)]; exact h, Hd.out, Touch.refl _ w, Below.refl _ w⟩
  case round =>
    obtain ⟨j, Ss, hj, rfl, hlS, hSs, hI, hT, hb⟩ := hrel
    clear c1 c2 c3 c4 c5 c6 c7 c8
    by_cases hlt8 : j < 8
    · have hltI : (j : Int) < 8 := by omega
      obtain ⟨s, S1, hs, hS1, hX⟩ := hI.segs.at (k := j) (by rw [hI.n8]; exact hlt8)
      dsimp only at hS1
      obtain ⟨S, hS⟩ : ∃ S, L.segs[j]? = some S := ⟨_, List.getElem?_eq_getElem (by omega)⟩
      have e1 := hSs j S hS
      rw [if_neg (by omega), hS1] at e1
      cases e1
      have hq : [p0, p1, p2, p3, p4, p5, p6, p7][j]? = some s.p := by rw [← Hps.out]; exact ptrs_get hs
      have hix := fun w => idx8p p0 p1 p2 p3 p4 p5 p6 p7 j s.p hq w
      have C1 := hide (fun n => segDiskX_calls B s S1 (wr.drewN n) (hX.keep (drewsB _ _)))
      have next : ∀ w2, IsDisk w2 B s.dp s.dg (crashD S1.D (geti keep (j : Int))) → Touch (onDisk s.dp s.dg) wr w2 → ∃ (j1 : Nat) (Ss : List SegD), j1 ≤ 8 ∧ Value.int .i64 ((j : Int) + 1) = .int .i64 (j1 : Int) ∧ Ss.length = 8 ∧ (∀ i S, L.segs[i]? = some S → Ss[i]? = some (if i < j1 then fellS S (geti keep (i : Int)) else S)) ∧ IsLog w2 B m { L with segs := Ss } ∧ Touch m.on w w2 ∧ Below B w w2 := fun w2 hd2 t2 => by
        obtain ⟨I2, T2⟩ := hI.seg_fell hs hS1 hd2 t2
        refine ⟨j + 1, Ss.set j { S1 with D := crashD S1.D (geti keep (j : Int)) }, by omega, by go_num, by simp [hlS], fun i S hi => ?_, I2, hT.trans T2, hb.trans ((hI.below (Nat.le_trans hB hT.size) T2).mono (Nat.le_refl _))⟩
        rw [List.getElem?_set]
        split
        · rename_i e
          subst e
          rw [hS] at hi
          cases hi
          rw [if_pos (by omega), if_pos (Nat.lt_succ_self _)]
          rfl
        · rename_i e
          rw [hSs i S hi]
          by_cases h : i < j
          · rw [if_pos h, if_pos (by omega)]
          · rw [if_neg h, if_neg (by omega)]
      have Next := hide next
      have Hv := hide (hv wr hb)
      have HvF := hide hv
      clear hS hSs hI hT hb hs hS1 next hv
      by_cases hge : keep.length ≤ j
      · have hgeI : (keep.length : Int) ≤ (j : Int) := by omega
        have hz : geti keep (j : Int) = 0 := by unfold geti; rw [if_pos (by omega)]
        rw [hz] at Next
        have C2 := hide (diskCrash_calls B s.dp s.dg S1.D 0 wr hX.disk (by decide) (by decide))
        clear hX hz
        go_wp2_with fail
        refine (C1.out 0).mono ?_
        rintro e w2 ⟨rfl, hw2⟩
        subst hw2
        go_wp2_with fail
        refine C2.out.mono ?_
        rintro e w2 ⟨rfl, d2, t2⟩
        have N := hide (Next.out w2 d2 t2)
        clear d2 t2 C1 C2
        go_wp2_with fail
        exact ⟨N.out, by simp [intOf]; omega⟩
      · have hgeI : ¬ (keep.length : Int) ≤ (j : Int) := by omega
        obtain ⟨ka', kc', hke, hcap, hcell⟩ := Hv.out
        cases hke
        obtain ⟨kb, ko, rfl, kcell⟩ := hcell j (by omega)
        have hzd : keep.getD j 0 = keep[j]'(by omega) := by rw [List.getD_eq_getElem?_getD, List.getElem?_eq_getElem (by omega)]; rfl
        have hz : geti keep (j : Int) = keep[j]'(by omega) := by unfold geti; rw [if_neg (by omega), Int.toNat_natCast, hzd]
        rw [hz] at Next
        rw [hzd] at kcell
        have hkj := hk _ (List.getElem_mem (by omega : j < keep.length))
        have hltk : j < keep.length := by omega
        have HvF2 := hide (fun W (h : Below B w W) => by
          obtain ⟨_, _, e, _, hc⟩ := HvF.out W h
          cases e
          obtain ⟨_, _, e, hc⟩ := hc j hltk
          cases e
          rw [hzd] at hc
          exact hc)
        generalize keep[j]'(by omega) = kv at *
        have C2 := hide (fun n => diskCrash_calls B s.dp s.dg S1.D kv (wr.drewN n) (hX.disk.new (drewsB wr n)) hkj.1 hkj.2)
        have kc1 : wr.drew.cell? ⟨kb, ko + j, none⟩ = some (.int .i64 kv) := kcell
        clear hX hz hk Hv hge hzd HvF
        go_wp2_with fail
        refine region_headT 7 (fun w2 => w2.cell? ⟨kb, ko + j, none⟩ = some (.int .i64 kv)) (by kernel_rfl) (by decide) ?_
        refine HeadT.take 0 (.pointer (some ⟨s.p, 0, none⟩)) rfl (by kernel_rfl) (.inl ⟨rfl, fun w2 s0 => by go_simp⟩) kc1 ?_
        refine HeadT.take 2 (.slice (some ⟨kb, ko, none⟩) keep.length kc) rfl (by kernel_rfl) (.inl ⟨rfl, fun w2 s0 => by go_simp⟩) kc1 ?_
        refine HeadT.take 3 (.int .i64 (j : Int)) rfl (by kernel_rfl) (.inl ⟨rfl, fun w2 s0 => by go_simp⟩) kc1 ?_
        refine HeadT.take 4 (.pointer (some ⟨kb, ko + j, none⟩)) rfl (by kernel_rfl) (.inl ⟨rfl, fun w2 s0 => by go_simp⟩) kc1 ?_
        refine HeadT.take 5 (.int .i64 kv) rfl (by kernel_rfl) (.inl ⟨rfl, fun w2 s0 => by go_simp⟩) kc1 ?_
        refine HeadT.only 1 (by kernel_rfl) ?_
        refine wpOp_call rfl rfl 45 #[.pointer (some ⟨s.p, 0, none⟩)] (by go_simp) (C1.out 1) ?_
        rintro e w2 ⟨rfl, hw2⟩
        subst hw2
        refine ⟨_, rfl, kc1, ?_⟩
        refine HeadT.only 6 (by kernel_rfl) ?_
        refine wpOp_call rfl rfl 46 #[.pointer (some ⟨s.dp, 0, none⟩), .int .i64 kv] (by go_simp) (C2.out 1) ?_
        rintro e w2 ⟨rfl, d2, t2⟩
        have N := Next.out w2 d2 (t2.of_touch (drewsB wr 1))
        have kc2 : w2.cell? ⟨kb, ko + j, none⟩ = some (.int .i64 kv) := by
          obtain ⟨_, _, -, -, -, -, -, -, b2⟩ := N
          exact HvF2.out w2 b2
        refine ⟨_, rfl, kc2, ?_⟩
        refine HeadT.tail rfl (by kernel_rfl) ?_
        simp only [List.drop_succ_cons, List.drop_zero, List.drop_nil]
        have HN := hide N
        clear N kc2 kc1 d2 t2 C1 C2 kcell HvF2 Next
        go_simp
        go_wp2_with fail
        simp only [noPanic]
        go_wp2_with fail
        exact ⟨HN.out, by simp [intOf]; omega⟩
    · obtain rfl : j = 8 := by omega
      have hfin : Ss = fellAll keep L.segs := by
        apply List.ext_getElem?
        intro i
        unfold fellAll
        rw [List.getElem?_mapIdx]
        rcases Nat.lt_or_ge i 8 with h | h
        · have hS : L.segs[i]? = some (L.segs[i]'(by omega)) := List.getElem?_eq_getElem (by omega)
          rw [hSs i _ hS, if_pos h, hS]
          rfl
        · rw [List.getElem?_eq_none (by omega), List.getElem?_eq_none (by omega)]
          rfl
      subst hfin
      have C3 := hide (diskCrash_to B m.dp m.dg _ 0 _ (own_crash { L with segs := fellAll keep L.segs } 0) wr hI.own (by decide) (by decide))
      obtain ⟨_, _, -, -, d0, -, -, -, -, -, -, -, -⟩ := hI.cells
      have I := hide hI
      have T := hide hT
      clear hI hT hSs hb hv
      go_wp2_with fail
      refine C3.out.mono ?_
      rintro e w2 ⟨rfl, d2, t2⟩
      obtain ⟨I2, T2⟩ := I.out.own_fell d2 t2
      have C4 := hide (fall_calls B m _ w2 I2)
      have HT := hide (T.out.trans T2)
      clear C3 d2 t2 I2 T2
      go_wp2_with fail
      refine C4.out.mono ?_
      rintro e w3 ⟨rfl, I3, T3⟩
      have I4 := hide I3
      have T4 := hide (HT.out.trans T3)
      clear I3 T3
      go_wp2_with fail
      try rw [Exit.noGoto_normal]
      go_end0
      exact ⟨rfl, I4.out, T4.out⟩

end Go.Proofs.YtjbjjfndkpcciaaGreatDoor

/- Each segment goes on, one by one. Own work; no statement. -/
set_option linter.unusedSimpArgs false
set_option linter.unusedVariables false
namespace Go.Proofs.YtjbjjfndkpcciaaGreatDoor
open Go.RowKit Go.Shelf Go.Sort

theorem box8_firm {W : World} {i : Nat} {c : Array Value} {f : Nat × Nat} (h : W.heap[i]? = some (.cells c 83 f)) : Firm W fun x => x = i := firm_one h ⟨by decide, by decide, by decide⟩
theorem Segs.box8 {W W' : World} {B : Nat} {ss : List SegM} {Ss : List SegD} {i : Nat} {c : Array Value} {f : Nat × Nat} (h : Segs W B ss Ss) (hi : W.heap[i]? = some (.cells c 83 f)) (t : Touch (fun x => x = i) W W') : Segs W' B ss Ss :=
  h.touch t (box8_firm hi) fun k hk e => h.not_on hi ⟨by decide, by decide, by decide, by decide⟩ (e ▸ hk)
theorem Boxed.box8 {W W' : World} {b : Nat} {ty : TypeId} {v : Value} {i : Nat} {c : Array Value} {f : Nat × Nat} (h : Boxed W b ty v) (hi : W.heap[i]? = some (.cells c 83 f)) (t : Touch (fun x => x = i) W W') (hb : b ≠ i) : Boxed W' b ty v :=
  boxed_of_heap h (t.block _ h.lt hb)

def mapTo (f : SegD → SegD) (k : Nat) (Ss : List SegD) : List SegD := Ss.mapIdx fun i S => if i < k then f S else S
theorem mapTo_zero (f : SegD → SegD) (Ss : List SegD) : mapTo f 0 Ss = Ss := by
  apply List.ext_getElem?
  intro i
  unfold mapTo
  rw [List.getElem?_mapIdx]
  cases Ss[i]? <;> simp
theorem mapTo_all (f : SegD → SegD) (Ss : List SegD) (k : Nat) (h : Ss.length ≤ k) : mapTo f k Ss = Ss.map f := by
  apply List.ext_getElem?
  intro i
  unfold mapTo
  rw [List.getElem?_mapIdx, List.getElem?_map]
  cases hS : Ss[i]? with
  | none => rfl
  | some S =>
    have := (List.getElem?_eq_some_iff.1 hS).1
    simp
    intro h'
    omega
theorem mapTo_get (f : SegD → SegD) (Ss : List SegD) (k : Nat) {S : SegD} (h : Ss[k]? = some S) : (mapTo f k Ss)[k]? = some S := by
  unfold mapTo
  rw [List.getElem?_mapIdx, h]
  simp
theorem mapTo_succ (f : SegD → SegD) (Ss : List SegD) (k : Nat) {S : SegD} (h : Ss[k]? = some S) : (mapTo f k Ss).set k (f S) = mapTo f (k + 1) Ss := by
  apply List.ext_getElem?
  intro i
  unfold mapTo
  rw [List.getElem?_set, List.length_mapIdx, List.getElem?_mapIdx, List.getElem?_mapIdx]
  have hk := (List.getElem?_eq_some_iff.1 h).1
  split
  · rename_i e
    subst e
    first | rw [if_pos hk, h] | rw [h]
    simp
  · rename_i e
    cases hS : Ss[i]? with
    | none => rfl
    | some X =>
      simp only [Option.map_some, Option.some.injEq]
      by_cases h1 : i < k
      · rw [if_pos h1, if_pos (by omega)]
      · rw [if_neg h1, if_neg (by omega)]

theorem eight_get (l : List Nat) (h : l.length = 8) : ∃ p0 p1 p2 p3 p4 p5 p6 p7, l = [p0, p1, p2, p3, p4, p5, p6, p7] := eight_of h

set_option maxHeartbeats 1000000 in
/-- Each of the segments goes on as f says, by what is done to it. -/
theorem eachSegs_calls (gf : Nat) (lb : Array Value) (heg : ∀ args w, (callFunc gf args).run Tryz.prog w = .ok (.enter gf args) w)
    (f : SegD → SegD) (R : SegM → SegM → Prop) (P : World → Prop) (B : Nat) (ss : List SegM) (Ss : List SegD) (w : World) (hs : Segs w B ss Ss) (hB : B ≤ w.heap.size)
    (p0 p1 p2 p3 p4 p5 p6 p7 : Nat) (hps : ptrs ss = [p0, p1, p2, p3, p4, p5, p6, p7]) (hP0 : ∀ W, Below w.heap.size w W → P W) (hP : Still w.heap.size P)
    (hdo : ∀ (W : World) (k : Nat) (s : SegM) (S : SegD), ss[k]? = some s → Ss[k]? = some S → w.heap.size ≤ W.heap.size → Below B w W → IsSegX W B s S → P W → Calls Tryz.prog gf (#[.pointer (some ⟨s.p, 0, none⟩)] ++ lb) W fun x W' => ∃ m', x = .returned (.tuple #[.pointer (some ⟨m'.p, 0, none⟩), .int .i64 0]) ∧ IsSegX W' B m' (f S) ∧ (∀ x, m'.on x → s.on x ∨ W.heap.size ≤ x) ∧ Touch s.on W W' ∧ R s m' ∧ P W') :
    Calls Tryz.prog 87 #[.agg #[.pointer (some ⟨p0, 0, none⟩), .pointer (some ⟨p1, 0, none⟩), .pointer (some ⟨p2, 0, none⟩), .pointer (some ⟨p3, 0, none⟩), .pointer (some ⟨p4, 0, none⟩), .pointer (some ⟨p5, 0, none⟩), .pointer (some ⟨p6, 0, none⟩), .pointer (some ⟨p7, 0, none⟩)], .func (.func gf) #[] lb] w fun x w' =>
      ∃ ss', x = .returned (.tuple #[.agg (fillV (adrs (ptrs ss'))).toArray, .int .i64 0]) ∧ Segs w' B ss' (Ss.map f) ∧ ss'.length = 8 ∧ (∀ x, onAll ss' x → onAll ss x ∨ w.heap.size ≤ x) ∧ Touch (onAll ss) w w' ∧ (∀ (k : Nat) (s s' : SegM), ss[k]? = some s → ss'[k]? = some s' → R s s') ∧ P w' := by
  have h8 : ss.length = 8 := by have := congrArg List.length hps; simpa [ptrs] using this
  have hS8 : Ss.length = 8 := by rw [← hs.len, h8]
  refine (each_calls gf lb _ _ _ _ _ _ _ _ w heg
    (fun k l W => ∃ cs : List SegM, cs.length = 8 ∧ l = (ptrs cs).take k ∧ Segs W B cs (mapTo f k Ss) ∧ (∀ (i : Nat) (s : SegM), k ≤ i → ss[i]? = some s → cs[i]? = some s) ∧ (∀ (i : Nat) (s s' : SegM), i < k → ss[i]? = some s → cs[i]? = some s' → R s s') ∧ (∀ x, onAll cs x → onAll ss x ∨ w.heap.size ≤ x) ∧ Touch (onAll ss) w W ∧ P W)
    (fun _ _ => False) ?_ (fun _ _ _ _ _ _ h => h.elim) ?_ ?_).mono ?_
  · rintro k l W W' i c fz ⟨cs, a1, a2, a3, a4, a5, a6, a7, a8⟩ hi hc t
    exact ⟨cs, a1, a2, a3.box8 hc t, a4, a5, a6, a7.upper t fun x hx => by rw [hx]; exact hi, hP W W' i c fz a8 hi hc t⟩
  · intro W hW
    exact ⟨ss, h8, rfl, by rw [mapTo_zero]; exact hs.keep hW, fun i s _ h => h, fun i s s' h => absurd h (Nat.not_lt_zero i), fun x hx => .inl hx, touch_new hW, hP0 W hW⟩
  · rintro k l W hk hl hz ⟨cs, a1, a2, a3, a4, a5, a6, a7, a8⟩
    obtain ⟨s, hs1⟩ : ∃ s, ss[k]? = some s := ⟨_, List.getElem?_eq_getElem (by omega)⟩
    obtain ⟨S, hS1⟩ : ∃ S, Ss[k]? = some S := ⟨_, List.getElem?_eq_getElem (by omega)⟩
    have hc1 := a4 k s (Nat.le_refl _) hs1
    have hX := a3.seg k s S hc1 (mapTo_get f Ss k hS1)
    have hq : [Value.pointer (some ⟨p0, 0, none⟩), .pointer (some ⟨p1, 0, none⟩), .pointer (some ⟨p2, 0, none⟩), .pointer (some ⟨p3, 0, none⟩), .pointer (some ⟨p4, 0, none⟩), .pointer (some ⟨p5, 0, none⟩), .pointer (some ⟨p6, 0, none⟩), .pointer (some ⟨p7, 0, none⟩)].getD k (.pointer none) = .pointer (some ⟨s.p, 0, none⟩) := by
      have h1 := ptrs_get hs1
      rw [hps] at h1
      match k, hk, h1 with
      | 0, _, h => cases h; rfl
      | 1, _, h => cases h; rfl
      | 2, _, h => cases h; rfl
      | 3, _, h => cases h; rfl
      | 4, _, h => cases h; rfl
      | 5, _, h => cases h; rfl
      | 6, _, h => cases h; rfl
      | 7, _, h => cases h; rfl
    rw [hq]
    refine (hdo W k s S hs1 hS1 hz (a7.below hB fun x _ hx => (hs.on hx).1) hX a8).mono ?_
    rintro x W' ⟨m', rfl, hX', hn, t, hR, hPW⟩
    refine ⟨_, 0, rfl, t.size, fun i c fz hi => t.block i (ltAt hi) (hX.not_on hi ⟨by decide, by decide, by decide, by decide⟩), .inl ⟨rfl, m'.p, rfl, cs.set k m', by simp [a1], ?_, ?_, ?_, ?_, ?_, ?_, hPW⟩⟩
    · have hkc : k < cs.length := by omega
      rw [a2]
      unfold ptrs
      rw [List.take_add_one, List.getElem?_map, List.getElem?_set, if_pos rfl, if_pos hkc, Option.map_some, Option.toList_some, List.map_set, List.take_set_of_le (Nat.le_refl _)]
    · rw [← mapTo_succ f Ss k hS1]
      exact a3.set hc1 t hX.firm (fun i n hi hne x hx hx' => a3.apart i k n s hi hc1 hne x hx hx') hX' hn
    · intro i s' hi h
      rw [List.getElem?_set, if_neg (by omega)]
      exact a4 i s' (by omega) h
    · intro i s1 s2 hi h1 h2
      rcases set_get h2 with ⟨rfl, rfl⟩ | ⟨hne, h2⟩
      · rw [hs1] at h1
        cases h1
        exact hR
      · exact a5 i s1 s2 (by omega) h1 h2
    · intro x hx
      rcases onAll_set hc1 hx with h | h
      · exact a6 x h
      · rcases hn x h with h | h
        · exact a6 x ⟨k, s, hc1, h⟩
        · exact .inr (Nat.le_trans a7.size h)
    · refine a7.next t fun x hx hxs => ?_
      exact ⟨k, s, hs1, hxs⟩
  · rintro x W' ⟨l, E, rfl, h | ⟨-, h⟩⟩
    · obtain ⟨rfl, qs, rfl, hq8, cs, a1, a2, a3, a4, a5, a6, a7, a8⟩ := h
      have e1 : qs = ptrs cs := by rw [a2, List.take_of_length_le (by simp [ptrs, a1])]
      subst e1
      rw [mapTo_all f Ss 8 (by omega)] at a3
      exact ⟨cs, rfl, a3, a1, a6, a7, fun k s s' h1 h2 => a5 k s s' (by have := (List.getElem?_eq_some_iff.1 h1).1; omega) h1 h2, a8⟩
    · exact h.elim

end Go.Proofs.YtjbjjfndkpcciaaGreatDoor

/- A segment's twin; what maint does to each segment. Own work; no statement. -/
set_option linter.unusedSimpArgs false
set_option linter.unusedVariables false
namespace Go.Proofs.YtjbjjfndkpcciaaGreatDoor
open Go.RowKit Go.Shelf Go.Sort

attribute [local go_sem] Oper.semAt_some

set_option maxHeartbeats 2000000 in
set_option maxRecDepth 100000 in
theorem segTwin_calls (B : Nat) (m : SegM) (S : SegD) (w : World) (hd : IsSegX w B m S) :
    Calls Tryz.prog 95 #[.pointer (some ⟨m.p, 0, none⟩)] w fun e w' => ∃ m', e = .returned (.pointer (some ⟨m'.p, 0, none⟩)) ∧ IsSegX w' w.heap.size m' S ∧ Below w.heap.size w w' := by
  obtain ⟨v, qs, hv, hl, hp, hr, hsl⟩ := hd.val
  obtain ⟨a, cap, rfl⟩ := ownsRow_slice hr
  obtain ⟨c0, c1, c2, c3, -, -, -, -⟩ := cells4 hp
  unfold ptrV at c0
  have hfew := hd.few
  obtain ⟨W0, hW0⟩ : ∃ W0, w.alloc (.cells #[.pointer (some ⟨m.dp, 0, none⟩), .int .i64 S.sealed, .int .i64 S.trim, .slice a qs.length cap] 144) = W0 := ⟨_, rfl⟩
  have HB : Below w.heap.size w W0 := by rw [← hW0]; exact box_below w _
  have hnew : W0.heap[w.heap.size]? = some (.cells #[.pointer (some ⟨m.dp, 0, none⟩), .int .i64 S.sealed, .int .i64 S.trim, .slice a qs.length cap] 144 (0, 0)) := by rw [← hW0]; exact World.alloc_heap_new w _
  have hsz : W0.heap.size = w.heap.size + 1 := by rw [← hW0]; simp
  have C1 := hide (diskTwin_calls B m.dp m.dg S.D W0 (hd.disk.new HB))
  have C2 := hide (fun W (h : Below w.heap.size w W) => cloneSlots_calls B _ qs W (own_below hr h) (by omega))
  have hlt : m.p < w.heap.size := ltAt hp
  have Hd := hide hd
  have Hl := hide hl
  have Hsl := hide hsl
  have HW := hide hW0
  have Hn := hide hnew
  have Hp := hide hp
  clear hd hr hp hv hl hsl hW0 hnew
  go_enter Tryz.func95, Tryz.ntmps95
  go_wp2_with fail
  rw [HW.out]
  refine C1.out.mono ?_
  rintro e w1 ⟨rfl, g', D1, B1⟩
  have x1 := keepB Hn.out B1
  have p1 := keepB (keepB Hp.out HB) B1
  obtain ⟨-, -, -, d3, -, -, -, -⟩ := cells4 p1
  obtain ⟨e0, e1, e2, e3, f0, f1, f2, f3⟩ := cells4 x1
  have HB1 := HB.trans (B1.mono HB.size)
  rw [hsz] at D1
  obtain ⟨W2, hW2⟩ : ∃ W2, w1.setCell ⟨w.heap.size, 0, none⟩ (.pointer (some ⟨w.heap.size + 1, 0, none⟩)) = W2 := ⟨_, rfl⟩
  have HB2 : Below w.heap.size w W2 := by rw [← hW2]; exact HB1.setCell (p := ⟨w.heap.size, 0, none⟩) (Nat.le_refl _) _
  have x2 : W2.heap[w.heap.size]? = some (.cells #[.pointer (some ⟨w.heap.size + 1, 0, none⟩), .int .i64 S.sealed, .int .i64 S.trim, .slice a qs.length cap] 144 (0, 0)) := by
    rw [← hW2]
    simpa using setAt (j := 0) x1 (.pointer (some ⟨w.heap.size + 1, 0, none⟩))
  have o2 : ∀ k, k ≠ w.heap.size → W2.heap[k]? = w1.heap[k]? := fun k hk => by rw [← hW2]; exact Below.heap_setCell _ _ _ _ hk
  have s2 : W2.heap.size = w1.heap.size := by rw [← hW2]; simp [World.setCell]
  have c3' : (w1.setCell ⟨w.heap.size, 0, none⟩ (.pointer (some ⟨w.heap.size + 1, 0, none⟩))).cell? ⟨m.p, 3, none⟩ = some (.slice a qs.length cap) := by
    rw [hW2]
    exact (cells4 ((o2 m.p (by omega)).trans p1)).2.2.2.1
  have C := hide (C2.out W2 HB2)
  have f3' := frozenAt x2 3
  have e3' := (cells4 x2).2.2.2.1
  have X2 := hide x2
  have O2 := hide o2
  have HD1 := hide D1
  have HW2 := hide hW2
  have B1s := B1.size
  clear x1 p1 d3 e1 e2 e3 D1 B1 HB1 C1 C2 c0 c1 c2 c3 x2 o2 Hn hW2
  go_wp2_with fail
  rw [HW2.out]
  refine C.out.mono ?_
  rintro e w3 ⟨v', rfl, hown, hb3⟩
  have x3 := keepB X2.out hb3
  have B3 := HB2.trans (hb3.mono HB2.size)
  obtain ⟨-, -, -, k3, -, -, -, l3⟩ := cells4 x3
  obtain ⟨a', cap', rfl⟩ := ownsRow_slice hown
  have HO := hide hown
  have X3 := hide x3
  have Hb3 := hide hb3
  clear hown x3 hb3 C c3' e0 f0 f1 f2 f3 e3' f3'
  go_wp2_with fail
  go_ret
  have hs0 := HW2.out
  have hsz2 := HB2.size
  have x4 := setAt (j := 3) X3.out (.slice a' qs.length cap')
  have o4 : ∀ k, k ≠ w.heap.size → (w3.setCell ⟨w.heap.size, 3, none⟩ (.slice a' qs.length cap')).heap[k]? = w3.heap[k]? := fun k hk => Below.heap_setCell _ _ _ _ hk
  have hlt2 := ltAt X2.out
  refine ⟨⟨w.heap.size, w.heap.size + 1, g', (Value.slice a' qs.length cap').ownBlock, m.c⟩, rfl, ⟨Hd.out.few, Nat.le_refl _, (by have := Hd.out.cl; have := B3.size; simp [World.setCell]; omega), ?_, .slice a' qs.length cap', qs, rfl, Hl.out, by simpa [ptrV] using x4, ?_, fun i h1 h2 => ?_⟩, B3.setCell (p := ⟨w.heap.size, 3, none⟩) (Nat.le_refl _) _⟩
  · refine (HD1.out.lower (show w.heap.size ≤ w.heap.size + 1 by omega)).keep fun k hk => ?_
    have h1 := HD1.out.on hk
    exact (o4 k (by omega)).trans ((Hb3.out.block k (by omega)).trans (O2.out k (by omega)))
  · refine ownsRow_low (ownsRow_of_heap HO.out fun k hk => o4 k (by have := (HO.out.lt k hk).1; omega)) (show w.heap.size ≤ W2.heap.size by omega)
  · exact (Hsl.out i h1 h2).below (B3.setCell (p := ⟨w.heap.size, 3, none⟩) (Nat.le_refl _) _)

theorem callOpened (B : Nat) (s : SegM) (S : SegD) (W : World) (hX : IsSegX W B s S) (hB : B ≤ W.heap.size) :
    Calls Tryz.prog 124 #[.pointer (some ⟨s.p, 0, none⟩)] W fun x W' => ∃ m', x = .returned (.tuple #[.pointer (some ⟨m'.p, 0, none⟩), .int .i64 0]) ∧ IsSeg W' B m' (openS S.D) ∧ (∀ x, m'.on x → s.on x ∨ W.heap.size ≤ x) ∧ Touch s.on W W' ∧ m'.dp = s.dp := by
  have C1 := hide (segDiskX_calls B s S W hX)
  have C2 := hide (segOpen_calls B s.dp s.dg S.D W hX.disk hB)
  clear hX
  go_enter Tryz.func124, Tryz.ntmps124
  go_wp2_with fail
  refine C1.out.mono ?_
  rintro e w2 ⟨rfl, hw2⟩
  subst hw2
  go_wp2_with fail
  refine C2.out.mono ?_
  rintro e w3 ⟨m', rfl, hdp, hI, hT, hn⟩
  go_wp2_with fail
  go_ret2
  exact ⟨m', rfl, hI, fun x hx => (hn x hx).imp (fun h => .inr (.inr h)) id, hT.mono fun k _ h => .inr (.inr h), hdp⟩

set_option maxHeartbeats 1000000 in
set_option maxRecDepth 100000 in
theorem opened_calls (B : Nat) (ss : List SegM) (Ss : List SegD) (w : World) (hs : Segs w B ss Ss) (hB : B ≤ w.heap.size) (p0 p1 p2 p3 p4 p5 p6 p7 : Nat) (hps : ptrs ss = [p0, p1, p2, p3, p4, p5, p6, p7]) :
    Calls Tryz.prog 70 #[.agg #[.pointer (some ⟨p0, 0, none⟩), .pointer (some ⟨p1, 0, none⟩), .pointer (some ⟨p2, 0, none⟩), .pointer (some ⟨p3, 0, none⟩), .pointer (some ⟨p4, 0, none⟩), .pointer (some ⟨p5, 0, none⟩), .pointer (some ⟨p6, 0, none⟩), .pointer (some ⟨p7, 0, none⟩)]] w fun x w' =>
      ∃ ss', x = .returned (.agg (fillV (adrs (ptrs ss'))).toArray) ∧ Segs w' B ss' (Ss.map fun S => openS S.D) ∧ ss'.length = 8 ∧ (∀ x, onAll ss' x → onAll ss x ∨ w.heap.size ≤ x) ∧ Touch (onAll ss) w w' := by
  have h8 : ss.length = 8 := by have := congrArg List.length hps; simpa [ptrs] using this
  obtain ⟨W0, hW0⟩ : ∃ W0, (w.alloc (.cells #[.pointer (some ⟨p0, 0, none⟩), .pointer (some ⟨p1, 0, none⟩), .pointer (some ⟨p2, 0, none⟩), .pointer (some ⟨p3, 0, none⟩), .pointer (some ⟨p4, 0, none⟩), .pointer (some ⟨p5, 0, none⟩), .pointer (some ⟨p6, 0, none⟩), .pointer (some ⟨p7, 0, none⟩)] 83)).alloc (.cells #[.pointer none, .pointer none, .pointer none, .pointer none, .pointer none, .pointer none, .pointer none, .pointer none] 83) = W0 := ⟨_, rfl⟩
  have B0 : Below w.heap.size w W0 := by rw [← hW0]; exact ((Below.refl _ w).alloc (Nat.le_refl _) _).alloc (by simp) _
  have s0 : W0.heap.size = w.heap.size + 2 := by rw [← hW0]; simp
  have x0 : Box8 W0 (w.heap.size + 1) [] := by
    rw [← hW0]
    have := World.alloc_heap_new (w.alloc (.cells #[.pointer (some ⟨p0, 0, none⟩), .pointer (some ⟨p1, 0, none⟩), .pointer (some ⟨p2, 0, none⟩), .pointer (some ⟨p3, 0, none⟩), .pointer (some ⟨p4, 0, none⟩), .pointer (some ⟨p5, 0, none⟩), .pointer (some ⟨p6, 0, none⟩), .pointer (some ⟨p7, 0, none⟩)] 83)) (.cells #[.pointer none, .pointer none, .pointer none, .pointer none, .pointer none, .pointer none, .pointer none, .pointer none] 83)
    rwa [World.size_alloc] at this
  have C := hide (eachSegs_calls 124 #[] (enters_of Tryz.func124 (by kernel_rfl) rfl) (fun S => openS S.D) (fun s m' => m'.dp = s.dp) (fun W => Box8 W (w.heap.size + 1) []) B ss Ss W0 (hs.keep B0) (by omega) p0 p1 p2 p3 p4 p5 p6 p7 hps (fun W hW => keepB x0 hW)
    (fun W W' i c f h hi hc t => (t.block _ (ltAt h) (by omega)).trans h)
    (fun W k s S hs1 hS1 hz hb hX h => (callOpened B s S W hX (by omega)).mono fun x W' ⟨m', h1, h2, h3, h4, h5⟩ => ⟨m', h1, h2.x, h3, h4, h5, (h4.block _ (ltAt h) (hX.not_on h ⟨by decide, by decide, by decide, by decide⟩)).trans h⟩))
  have HW := hide hW0
  clear hW0 x0 hs hps
  go_enter Tryz.func70, Tryz.ntmps70
  go_wp2_with fail
  rw [HW.out]
  refine C.out.mono ?_
  rintro e w1 ⟨ss', rfl, hs1, h81, hn1, t1, -, y1⟩
  obtain ⟨q0, q1, q2, q3, q4, q5, q6, q7, hq8⟩ := eight_of (l := ptrs ss') (by simp [ptrs, h81])
  have ef8 : (fillV (adrs (ptrs ss'))).toArray = #[.pointer (some ⟨q0, 0, none⟩), .pointer (some ⟨q1, 0, none⟩), .pointer (some ⟨q2, 0, none⟩), .pointer (some ⟨q3, 0, none⟩), .pointer (some ⟨q4, 0, none⟩), .pointer (some ⟨q5, 0, none⟩), .pointer (some ⟨q6, 0, none⟩), .pointer (some ⟨q7, 0, none⟩)] := by rw [hq8]; rfl
  rw [ef8]
  have bA := box_below w1 (.cells #[.pointer (some ⟨q0, 0, none⟩), .pointer (some ⟨q1, 0, none⟩), .pointer (some ⟨q2, 0, none⟩), .pointer (some ⟨q3, 0, none⟩), .pointer (some ⟨q4, 0, none⟩), .pointer (some ⟨q5, 0, none⟩), .pointer (some ⟨q6, 0, none⟩), .pointer (some ⟨q7, 0, none⟩)] 83)
  have y2 := keepB y1 bA
  have Y2 := hide y2
  obtain ⟨⟨e0, e1, e2, e3, e4, e5, e6, e7⟩, g0, g1, g2, g3, g4, g5, g6, g7⟩ := cells8 y2
  have hsA := bA.size
  clear y1 C
  go_wp2_with fail
  have e5 := put8_heap Y2.out (.pointer (some ⟨q0, 0, none⟩)) (.pointer (some ⟨q1, 0, none⟩)) (.pointer (some ⟨q2, 0, none⟩)) (.pointer (some ⟨q3, 0, none⟩)) (.pointer (some ⟨q4, 0, none⟩)) (.pointer (some ⟨q5, 0, none⟩)) (.pointer (some ⟨q6, 0, none⟩)) (.pointer (some ⟨q7, 0, none⟩))
  have t5 := put8_touch (W := w1.alloc (.cells #[.pointer (some ⟨q0, 0, none⟩), .pointer (some ⟨q1, 0, none⟩), .pointer (some ⟨q2, 0, none⟩), .pointer (some ⟨q3, 0, none⟩), .pointer (some ⟨q4, 0, none⟩), .pointer (some ⟨q5, 0, none⟩), .pointer (some ⟨q6, 0, none⟩), .pointer (some ⟨q7, 0, none⟩)] 83)) (b := w.heap.size + 1) (.pointer (some ⟨q0, 0, none⟩)) (.pointer (some ⟨q1, 0, none⟩)) (.pointer (some ⟨q2, 0, none⟩)) (.pointer (some ⟨q3, 0, none⟩)) (.pointer (some ⟨q4, 0, none⟩)) (.pointer (some ⟨q5, 0, none⟩)) (.pointer (some ⟨q6, 0, none⟩)) (.pointer (some ⟨q7, 0, none⟩))
  obtain ⟨W5, hW5⟩ : ∃ W5, put8 (w1.alloc (.cells #[.pointer (some ⟨q0, 0, none⟩), .pointer (some ⟨q1, 0, none⟩), .pointer (some ⟨q2, 0, none⟩), .pointer (some ⟨q3, 0, none⟩), .pointer (some ⟨q4, 0, none⟩), .pointer (some ⟨q5, 0, none⟩), .pointer (some ⟨q6, 0, none⟩), .pointer (some ⟨q7, 0, none⟩)] 83)) (w.heap.size + 1) (.pointer (some ⟨q0, 0, none⟩)) (.pointer (some ⟨q1, 0, none⟩)) (.pointer (some ⟨q2, 0, none⟩)) (.pointer (some ⟨q3, 0, none⟩)) (.pointer (some ⟨q4, 0, none⟩)) (.pointer (some ⟨q5, 0, none⟩)) (.pointer (some ⟨q6, 0, none⟩)) (.pointer (some ⟨q7, 0, none⟩)) = W5 := ⟨_, rfl⟩
  rw [hW5] at e5 t5
  unfold put8 at hW5
  rw [hW5]
  obtain ⟨⟨k0, k1, k2, k3, k4, k5, k6, k7⟩, -⟩ := cells8 e5
  refine bodyPost_ret (v := .agg #[.pointer (some ⟨q0, 0, none⟩), .pointer (some ⟨q1, 0, none⟩), .pointer (some ⟨q2, 0, none⟩), .pointer (some ⟨q3, 0, none⟩), .pointer (some ⟨q4, 0, none⟩), .pointer (some ⟨q5, 0, none⟩), .pointer (some ⟨q6, 0, none⟩), .pointer (some ⟨q7, 0, none⟩)]) (by simp [results, Tryz.f70, go_sem, k0, k1, k2, k3, k4, k5, k6, k7]) rfl ?_
  refine ⟨ss', by rw [ef8], (hs1.keep bA).box8 Y2.out t5, h81, fun x hx => (hn1 x hx).imp (fun h => h) fun h => by omega, (((t1.new bA).of_touch B0).upper t5 fun x hx => by rw [hx]; omega)⟩

end Go.Proofs.YtjbjjfndkpcciaaGreatDoor
