/- Own work: the parts G20, G21, G22, G23 of the proof, laid together. -/
import Derived.Test.YtjbjjfndkpcciaaGreatDoorPartLogStripes17
/- A log's Trim. Own work; no statement. -/
set_option linter.unusedSimpArgs false
set_option linter.unusedVariables false
namespace Go.Proofs.YtjbjjfndkpcciaaGreatDoor
open Go.RowKit Go.Shelf Go.Sort

/-- A log that is trimmed: its head at h'. -/
def LogD.trimS (L : LogD) (pos h' : Int) : LogD := { L with ops := L.ops ++ [.trim pos (L.vecTo pos)], segs := L.segs.map fun S => segTrimS S pos, trim := pos, gone := L.vecTo pos, head := h' }

set_option maxHeartbeats 4000000 in
set_option maxRecDepth 100000 in
theorem logTrim_bad (B : Nat) (m : LogM) (L : LogD) (pos : Int) (v : Value) (l : List Int) (N : Nat) (w : World) (hd : IsLog w B m L) (hf : L.fm) (hu : L.up) (hN : L.Has L.trim N) (hv : IsNums .i64 w v l) (hl : l.length ≤ 1099511627776)
    (hb : pos < L.trim ∨ L.head < pos ∨ everyB eqB l (L.vecTo pos) = false) :
    Calls Tryz.prog 32 #[.pointer (some ⟨m.p, 0, none⟩), .int .i64 pos, v] w fun e w' => e = .returned (.int .i64 1) ∧ Below w.heap.size w w' := by
  obtain ⟨_, _, -, -, -, -, c10, c11, -, c13, -, -, -⟩ := hd.cells
  have hn := hu.not
  rw [hn] at c10
  obtain ⟨va, vc, rfl⟩ := hv.form
  have hlt := hd.lt
  by_cases h1 : pos < L.trim
  · clear hd hf hN hv hb
    go_enter Tryz.func32, Tryz.ntmps32
    go_wp2_with fail
    go_ret
    exact ⟨rfl, Below.refl _ _⟩
  · by_cases h2 : L.head < pos
    · clear hd hf hN hv hb
      go_enter Tryz.func32, Tryz.ntmps32
      go_wp2_with fail
      go_ret
      exact ⟨rfl, Below.refl _ _⟩
    · have h3 : everyB eqB l (L.vecTo pos) = false := by
        rcases hb with h | h | h
        · exact absurd h h1
        · exact absurd h h2
        · exact h
      have hx := hf.next0
      have hx1 := hf.next1
      have hg := takeIn_length L.gone (by have := hf.gone8; omega) (L.recs L.trim (pos - L.trim).toNat)
      have C1 := hide (vector_calls B m L pos N w hd hf (fun _ => hu) hN (by omega) (by omega) (by omega))
      have C2 := hide (fun W (h : Below w.heap.size w W) (vg : Value) (hg' : IsNums .i64 W vg (L.vecTo pos)) => same_calls _ vg l (L.vecTo pos) W (hv.below h) hg' hl (by unfold LogD.vecTo; omega))
      rw [h3] at C2
      clear hd hf hN hv hb hg
      generalize L.vecTo pos = gone at *
      go_enter Tryz.func32, Tryz.ntmps32
      go_wp2_with fail
      refine C1.out.mono ?_
      rintro e w1 ⟨vg, rfl, hown, hb1⟩
      obtain ⟨ga, gc, rfl⟩ := ownsRow_slice hown
      have D2 := hide (C2.out w1 hb1 _ (IsNums.of_row hown))
      have HB := hide hb1
      clear C1 C2 hb1 hown c10 c11 c13
      go_wp2_with fail
      refine D2.out.mono ?_
      rintro e w2 ⟨rfl, hw2⟩
      subst hw2
      clear D2
      go_wp2_with fail
      go_ret
      exact ⟨rfl, HB.out⟩

set_option maxHeartbeats 4000000 in
set_option maxRecDepth 100000 in
theorem logTrim_calls (B : Nat) (m : LogM) (L : LogD) (pos h' : Int) (v : Value) (l : List Int) (N : Nat) (w : World) (hd : IsLog w B m L) (hB : B ≤ w.heap.size) (hf : L.fm) (hu : L.up) (hN : L.Has L.trim N) (hv : IsNums .i64 w v l) (hl : l.length ≤ 1099511627776) (hp : PowF B w)
    (h1 : L.trim ≤ pos) (h2 : pos ≤ L.head) (h3 : everyB eqB l (L.vecTo pos) = true) (h4 : InS (L.vecTo pos)) (h5 : (L.vecTo pos).length ≤ 8) (he : writeE L.own (textO (.trim pos (L.vecTo pos))) = 0) (hok : ∀ S ∈ L.segs, (segTrimS S pos).ok) (ha : (L.trimS pos h').Adv L.head h') (hh : h' ≤ 2147483648) :
    Calls Tryz.prog 32 #[.pointer (some ⟨m.p, 0, none⟩), .int .i64 pos, v] w fun e w' => e = .returned (.int .i64 0) ∧ LogGoes B m (L.trimS pos h') w w' := by
  obtain ⟨_, _, -, -, -, -, c10, c11, -, c13, -, -, -⟩ := hd.cells
  have hn := hu.not
  rw [hn] at c10
  obtain ⟨va, vc, rfl⟩ := hv.form
  have hlt := hd.lt
  have hx := hf.next0
  have hx1 := hf.next1
  have h0 := hf.trim0
  have hfit := hd.fit hf
  have C1 := hide (vector_calls B m L pos N w hd hf (fun _ => hu) hN (by omega) (by omega) (by omega))
  have C2 := hide (fun W (h : Below w.heap.size w W) (vg : Value) (hg' : IsNums .i64 W vg (L.vecTo pos)) => same_calls _ vg l (L.vecTo pos) W (hv.below h) hg' hl (by omega))
  rw [h3] at C2
  have hsz := textO_trim_size (pos := pos) (l := L.vecTo pos) (by omega) (by omega) h4 h5
  have C3 := hide (fun W (h : Below w.heap.size w W) (vg : Value) (hg' : IsNums .i64 W vg (L.vecTo pos)) => trimLine_calls pos vg (L.vecTo pos) W hg' (by omega) (by omega) h4 h5 (hp.below (h.mono hB)).pow)
  have C4 := hide (fun W (h : Below w.heap.size w W) => note_calls B m L (.trim pos (L.vecTo pos)) W (hd.keep h) (Nat.le_trans hB h.size) (by omega) he)
  have Hd := hide hd
  have Ha := hide ha
  have Hok := hide hok
  have Hfit := hide hfit
  have Hu := hide hu
  have hTS : L.trimS pos h' = { L with ops := L.ops ++ [.trim pos (L.vecTo pos)], segs := L.segs.map fun S => segTrimS S pos, trim := pos, gone := L.vecTo pos, head := h' } := rfl
  rw [hTS]
  have HTS := hide hTS
  clear hd hf hN hv ha hok hfit hu h3 h4 h5 he hTS
  go_enter Tryz.func32, Tryz.ntmps32
  go_wp2_with fail
  refine C1.out.mono ?_
  rintro e w1 ⟨vg, rfl, hown, hb1⟩
  obtain ⟨ga, gc, rfl⟩ := ownsRow_slice hown
  have D2 := hide (C2.out w1 hb1 _ (IsNums.of_row hown))
  have D3 := hide (C3.out w1 hb1 _ (IsNums.of_row hown))
  have HB := hide hb1
  have HO := hide hown
  clear C1 C2 C3 hb1 hown c10 c11 c13
  go_wp2_with fail
  refine D2.out.mono ?_
  rintro e w2 ⟨rfl, hw2⟩
  subst hw2
  clear D2
  go_wp2_with fail
  refine D3.out.mono ?_
  rintro e w3 ⟨rfl, hb3⟩
  have b3 := HB.out.trans (hb3.mono HB.out.size)
  have D4 := hide (C4.out w3 b3)
  have HO3 := hide (own_below HO.out hb3)
  have HB3 := hide b3
  clear hb3 b3 D3 C4 HO HB
  go_wp2_with fail
  refine D4.out.mono ?_
  rintro e w4 ⟨rfl, ⟨p4, dp4, dg4, ss4⟩, hp4, I4, T4, N4⟩
  dsimp only at hp4
  subst hp4
  have r4 : w4.ownsRow 0 3 1 (.slice ga (L.vecTo pos).length gc) (L.vecTo pos).length ((L.vecTo pos).map (Value.int .i64)) := by
    refine ownsRow_of_heap (ownsRow_low HO3.out (Nat.zero_le _)) fun k hk => T4.block k (HO3.out.lt k hk).2 fun h => ?_
    have e1 := (HO3.out.lt k hk).1
    have e2 := (Hd.out.on h).2
    omega
  obtain ⟨_, _, -, -, -, -, -, k11, k12, -, -, fz, -⟩ := I4.cells
  obtain ⟨p0, p1, p2, p3, p4', p5, p6, p7, hps, c1, c2, c3, c4, c5, c6, c7, c8⟩ := I4.cells8
  have f11 := fz 11
  have f12 := fz 12
  dsimp only at k11 k12 f11 f12 hps c1 c2 c3 c4 c5 c6 c7 c8
  obtain ⟨I5, T5⟩ := I4.set_trim pos
  obtain ⟨I6, T6⟩ := I5.set_gone (.slice ga (L.vecTo pos).length gc) (L.vecTo pos) (row_p I4 (touch_set w4 _ _ rfl) r4 int_firm)
  dsimp only at I6 T6 I5 T5
  have B34 : Below B w3 w4 := T4.below (Nat.le_trans hB HB3.out.size) fun x _ hx => (Hd.out.on hx).1
  have hB4 := B34.size
  have hS4 : w3.heap.size ≤ w4.heap.size := B34.size
  have B46 := I4.below (Nat.le_trans hB (Nat.le_trans HB3.out.size hB4)) (T5.trans T6)
  have C7 := hide (segsTrim_calls B pos ss4 L.segs _ I6.segs (by have := HB3.out.size; have := B46.size; omega) Hu.out.ok (((hp.below (HB3.out.mono hB)).below B34).below B46) p0 p1 p2 p3 p4' p5 p6 p7 hps)
  have H6 := hide I6
  have HS4 := hide hS4
  have HT6 := hide ((T4.of_touch HB3.out).next (T5.trans T6) fun x hx hm => by
    rcases N4 x hm with h | h
    · exact h
    · have := HB3.out.size; omega)
  have HN4 := hide N4
  clear I4 T4 N4 I5 T5 I6 T6 r4 fz D4 B34 B46 hps
  go_wp2_with fail
  refine C7.out.mono ?_
  rintro e w7 ⟨ss7, rfl, hs7, h87, hp7, hn7, t7⟩
  have I7 := H6.out.segs_go hs7 h87 hp7 t7 (fun x h => h) (fun x hx => (hn7 x hx))
  dsimp only at I7
  have ha7 := Ha.out
  rw [HTS.out] at ha7
  have C8 := hide (advance_calls B _ _ h' w7 I7 ⟨by simp [Hfit.out.eight], Hfit.out.ok, Hfit.out.few⟩ (fun X hX => by
    dsimp only at hX
    obtain ⟨S, hS, rfl⟩ := List.mem_map.1 hX
    exact Hok.out S hS) (by dsimp only; omega) ⟨ha7.le, ha7.all, ha7.stop⟩ hh)
  dsimp only at C8
  have HT7 := hide t7
  have HN7 := hide hn7
  clear I7 hs7 t7 hn7 hp7 C7 ha7 k11 k12 f11 f12 c1 c2 c3 c4 c5 c6 c7 c8
  go_wp2_with fail
  refine C8.out.mono ?_
  rintro e w8 ⟨rfl, I8, T8⟩
  have H8 := hide I8
  have HT8 := hide T8
  clear I8 T8 C8
  go_wp2_with fail
  go_ret
  have s3 := HB3.out.size
  have s4 : ((w4.setCell ⟨m.p, 11, none⟩ (.int .i64 pos)).setCell ⟨m.p, 12, none⟩ (.slice ga (L.vecTo pos).length gc)).heap.size = w4.heap.size := by simp [World.setCell]
  have n4 : ∀ x, onAll ss4 x → m.on x ∨ w3.heap.size ≤ x := fun x h => HN4.out x (.inr (.inr h))
  have n7 : ∀ x, LogM.on ⟨m.p, dp4, dg4, ss7⟩ x → m.on x ∨ w3.heap.size ≤ x := fun x hx => by
    rcases hx with h | h | h
    · exact .inl (.inl h)
    · exact HN4.out x (.inr (.inl h))
    · rcases HN7.out x h with h5 | h5
      · exact n4 x h5
      · exact .inr (by have := HS4.out; omega)
  refine ⟨rfl, ⟨m.p, dp4, dg4, ss7⟩, rfl, H8.out, (HT6.out.next HT7.out fun x hx h => ?_).next HT8.out fun x hx h => ?_, fun x hx => ?_⟩
  · rcases n4 x h with h5 | h5
    · exact h5
    · omega
  · rcases n7 x h with h5 | h5
    · exact h5
    · omega
  · rcases n7 x hx with h5 | h5
    · exact .inl h5
    · exact .inr (by omega)

end Go.Proofs.YtjbjjfndkpcciaaGreatDoor

/- A log's Resize. Own work; no statement. -/
set_option linter.unusedSimpArgs false
set_option linter.unusedVariables false
namespace Go.Proofs.YtjbjjfndkpcciaaGreatDoor
open Go.RowKit Go.Shelf Go.Sort

/-- A log that is resized. -/
def LogD.resizeS (L : LogD) (n : Int) : LogD := { L with ops := L.ops ++ [.map (L.map ++ [(L.next, n)])], segs := L.segs.map (sealTo (L.map.length : Int)), map := L.map ++ [(L.next, n)] }

set_option maxHeartbeats 1000000 in
set_option maxRecDepth 100000 in
theorem logResize_state (B : Nat) (m : LogM) (L : LogD) (n : Int) (w : World) (hd : IsLog w B m L) (hf : L.fm) (hu : L.up) (hx : L.head ≠ L.next) (hok : okMap (L.map ++ [(L.next, n)]) = true) :
    Calls Tryz.prog 27 #[.pointer (some ⟨m.p, 0, none⟩), .int .i64 n] w fun e w' => e = .returned (.int .i64 12) ∧ Below w.heap.size w w' := by
  obtain ⟨vs, vg, r1, -, -, c9, c10, -, -, c13, c14, -, -⟩ := hd.cells
  have hfew := hd.few hf
  rw [hu.not] at c10
  obtain ⟨a, cap, rfl⟩ := ownsRow_slice r1
  have C1 := hide (mapAdd_calls _ L.map L.next n w.drew ((OwnsM.map r1).below (drewsB w 1)) (by omega))
  obtain ⟨M, hM⟩ : ∃ M, L.map ++ [(L.next, n)] = M := ⟨_, rfl⟩
  rw [show checkM (L.map ++ [(L.next, n)]) = 0 by unfold checkM; rw [if_pos hok], show addM L.map L.next n = M by unfold addM; rw [if_pos hok, hM]] at C1
  have hlt := hd.lt
  have HK := hide (fun W (h : Below w.heap.size w W) => (⟨(h.cell (p := ⟨m.p, 9, none⟩) hlt).trans c9, (h.cell (p := ⟨m.p, 13, none⟩) hlt).trans c13, (h.cell (p := ⟨m.p, 14, none⟩) hlt).trans c14⟩ : W.cell? ⟨m.p, 9, none⟩ = some (.slice a L.map.length cap) ∧ W.cell? ⟨m.p, 13, none⟩ = some (.int .i64 L.head) ∧ W.cell? ⟨m.p, 14, none⟩ = some (.int .i64 L.next)))
  have hne : (L.head != L.next) = true := by simpa using hx
  have d9 := c9
  have d14 := c14
  clear hd r1 hok hf hu hx hM
  go_enter Tryz.func27, Tryz.ntmps27
  go_wp2_with fail
  refine region_headT 14 (fun W => W.cell? ⟨m.p, 9, none⟩ = some (.slice a L.map.length cap) ∧ W.cell? ⟨m.p, 14, none⟩ = some (.int .i64 L.next)) (by kernel_rfl) (by decide) ?_
  refine HeadT.take 0 (.pointer (some ⟨m.p, 0, none⟩)) rfl (by kernel_rfl) (.inl ⟨rfl, fun w2 ⟨t0, t1⟩ => by go_simp⟩) ⟨d9, d14⟩ ?_
  refine HeadT.take 1 (.pointer (some ⟨m.p, 0, none⟩)) rfl (by kernel_rfl) (.inl ⟨rfl, fun w2 ⟨t0, t1⟩ => by go_simp⟩) ⟨d9, d14⟩ ?_
  refine HeadT.take 2 (.pointer (some ⟨m.p, 9, none⟩)) rfl (by kernel_rfl) (.inl ⟨rfl, fun w2 ⟨t0, t1⟩ => by go_simp⟩) ⟨d9, d14⟩ ?_
  refine HeadT.take 3 (.slice a L.map.length cap) rfl (by kernel_rfl) (.inl ⟨rfl, fun w2 ⟨t0, t1⟩ => by go_simp⟩) ⟨d9, d14⟩ ?_
  refine HeadT.take 4 (.pointer (some ⟨m.p, 0, none⟩)) rfl (by kernel_rfl) (.inl ⟨rfl, fun w2 ⟨t0, t1⟩ => by go_simp⟩) ⟨d9, d14⟩ ?_
  refine HeadT.take 5 (.pointer (some ⟨m.p, 0, none⟩)) rfl (by kernel_rfl) (.inl ⟨rfl, fun w2 ⟨t0, t1⟩ => by go_simp⟩) ⟨d9, d14⟩ ?_
  refine HeadT.take 6 (.pointer (some ⟨m.p, 14, none⟩)) rfl (by kernel_rfl) (.inl ⟨rfl, fun w2 ⟨t0, t1⟩ => by go_simp⟩) ⟨d9, d14⟩ ?_
  refine HeadT.take 7 (.int .i64 L.next) rfl (by kernel_rfl) (.inl ⟨rfl, fun w2 ⟨t0, t1⟩ => by go_simp⟩) ⟨d9, d14⟩ ?_
  refine HeadT.take 8 (.int .i64 n) rfl (by kernel_rfl) (.inl ⟨rfl, fun w2 ⟨t0, t1⟩ => by go_simp⟩) ⟨d9, d14⟩ ?_
  refine HeadT.only 9 (by kernel_rfl) ?_
  refine wpOp_call rfl rfl 38 #[.slice a L.map.length cap, .int .i64 L.next, .int .i64 n] (by go_simp) C1.out ?_
  rintro e w1 ⟨v', rfl, hown, b1⟩
  replace b1 : Below w.heap.size w w1 := (drewsB w 1).trans (b1.mono (Nat.le_refl _))
  obtain ⟨va, vc, rfl⟩ := ownsRow_slice hown
  obtain ⟨k9, k13, k14⟩ := HK.out w1 b1
  have Hb := hide b1
  clear b1 C1 HK hown
  refine ⟨_, rfl, ⟨k9, k14⟩, ?_⟩
  refine HeadT.take 10 (.tuple #[.slice va M.length vc, .int .i64 0]) rfl (by kernel_rfl) (.inl ⟨rfl, fun w2 ⟨t0, t1⟩ => by go_simp⟩) ⟨k9, k14⟩ ?_
  refine HeadT.take 11 (.slice va M.length vc) rfl (by kernel_rfl) (.inl ⟨rfl, fun w2 ⟨t0, t1⟩ => by go_simp⟩) ⟨k9, k14⟩ ?_
  refine HeadT.take 12 (.int .i64 0) rfl (by kernel_rfl) (.inl ⟨rfl, fun w2 ⟨t0, t1⟩ => by go_simp⟩) ⟨k9, k14⟩ ?_
  refine HeadT.only 13 (by kernel_rfl) ?_
  refine wpOp_val rfl rfl (v := .slice va M.length vc) (w' := w1) (by go_simp) ⟨⟨k9, k14⟩, ?_⟩
  refine HeadT.tail rfl (by kernel_rfl) ?_
  simp only [List.drop_succ_cons, List.drop_zero]
  go_wp2_with fail
  try simp only [noPanic]
  go_wp2_with fail
  go_quiet (fail)
  go_wp2_with fail
  go_ret
  exact ⟨rfl, Hb.out.trans ((drewsB w1 nq).mono Hb.out.size)⟩

set_option maxHeartbeats 4000000 in
set_option maxRecDepth 100000 in
theorem logResize_calls (B : Nat) (m : LogM) (L : LogD) (n : Int) (w : World) (hd : IsLog w B m L) (hB : B ≤ w.heap.size) (hf : L.fm) (hu : L.up) (hx : L.head = L.next) (hp : PowF B w) (hok : okMap (L.map ++ [(L.next, n)]) = true) (hr : MapS (L.map ++ [(L.next, n)])) (hse : ∀ S ∈ L.segs, ¬ (L.map.length : Int) ≤ S.sealed → segSealE S (L.map.length : Int) = 0) (he : writeE L.own (textO (.map (L.map ++ [(L.next, n)]))) = 0) :
    Calls Tryz.prog 27 #[.pointer (some ⟨m.p, 0, none⟩), .int .i64 n] w fun e w' => e = .returned (.int .i64 0) ∧ LogGoes B m (L.resizeS n) w w' := by
  obtain ⟨vs, vg, r1, -, -, c9, c10, -, -, c13, c14, -, -⟩ := hd.cells
  have hfew := hd.few hf
  rw [hu.not] at c10
  rw [hx] at c13
  have HX := hide hx
  clear hx
  obtain ⟨a, cap, rfl⟩ := ownsRow_slice r1
  have C1 := hide (mapAdd_calls _ L.map L.next n w.drew ((OwnsM.map r1).below (drewsB w 1)) (by omega))
  obtain ⟨M, hM⟩ : ∃ M, L.map ++ [(L.next, n)] = M := ⟨_, rfl⟩
  rw [show checkM (L.map ++ [(L.next, n)]) = 0 by unfold checkM; rw [if_pos hok], show addM L.map L.next n = M by unfold addM; rw [if_pos hok, hM]] at C1
  have hMl : Hid (M.length = L.map.length + 1) := hide (by rw [← hM]; simp)
  rw [hM] at hr he
  have hR : L.resizeS n = { L with ops := L.ops ++ [.map M], segs := L.segs.map (sealTo (L.map.length : Int)), map := M } := by unfold LogD.resizeS; rw [hM]
  rw [hR]
  have hsz : (textO (.map M)).size ≤ 1099511627776 := by
    have := hMl.out
    have := spansTo_size (MapS.r hr)
    simp only [textO, ByteArray.size, List.size_toArray, List.length_cons]
    omega
  have C2 := hide (fun W (h : Below w.heap.size w W) => logEpoch_calls B m L W (hd.keep h))
  have C4 := hide (fun W v (h : Below B w W) (hv : IsMap W v M) => mapLine_calls v M W hv (by have := hMl.out; omega) (MapS.r hr) (hp.below h).pow)
  have Hd := hide hd
  have Hfz := hide (fun W (I : IsLog W B m L) => I.cells8)
  have Hok := hide hu.ok
  have Hse := hide hse
  have Hp := hide hp
  have He := hide he
  have d9 := c9
  have d14 := c14
  have hlt := hd.lt
  clear hd r1 hok hf hu hR hse hp he hr hM
  go_enter Tryz.func27, Tryz.ntmps27
  go_wp2_with fail
  refine region_headT 14 (fun W => W.cell? ⟨m.p, 9, none⟩ = some (.slice a L.map.length cap) ∧ W.cell? ⟨m.p, 14, none⟩ = some (.int .i64 L.next)) (by kernel_rfl) (by decide) ?_
  refine HeadT.take 0 (.pointer (some ⟨m.p, 0, none⟩)) rfl (by kernel_rfl) (.inl ⟨rfl, fun w2 ⟨t0, t1⟩ => by go_simp⟩) ⟨d9, d14⟩ ?_
  refine HeadT.take 1 (.pointer (some ⟨m.p, 0, none⟩)) rfl (by kernel_rfl) (.inl ⟨rfl, fun w2 ⟨t0, t1⟩ => by go_simp⟩) ⟨d9, d14⟩ ?_
  refine HeadT.take 2 (.pointer (some ⟨m.p, 9, none⟩)) rfl (by kernel_rfl) (.inl ⟨rfl, fun w2 ⟨t0, t1⟩ => by go_simp⟩) ⟨d9, d14⟩ ?_
  refine HeadT.take 3 (.slice a L.map.length cap) rfl (by kernel_rfl) (.inl ⟨rfl, fun w2 ⟨t0, t1⟩ => by go_simp⟩) ⟨d9, d14⟩ ?_
  refine HeadT.take 4 (.pointer (some ⟨m.p, 0, none⟩)) rfl (by kernel_rfl) (.inl ⟨rfl, fun w2 ⟨t0, t1⟩ => by go_simp⟩) ⟨d9, d14⟩ ?_
  refine HeadT.take 5 (.pointer (some ⟨m.p, 0, none⟩)) rfl (by kernel_rfl) (.inl ⟨rfl, fun w2 ⟨t0, t1⟩ => by go_simp⟩) ⟨d9, d14⟩ ?_
  refine HeadT.take 6 (.pointer (some ⟨m.p, 14, none⟩)) rfl (by kernel_rfl) (.inl ⟨rfl, fun w2 ⟨t0, t1⟩ => by go_simp⟩) ⟨d9, d14⟩ ?_
  refine HeadT.take 7 (.int .i64 L.next) rfl (by kernel_rfl) (.inl ⟨rfl, fun w2 ⟨t0, t1⟩ => by go_simp⟩) ⟨d9, d14⟩ ?_
  refine HeadT.take 8 (.int .i64 n) rfl (by kernel_rfl) (.inl ⟨rfl, fun w2 ⟨t0, t1⟩ => by go_simp⟩) ⟨d9, d14⟩ ?_
  refine HeadT.only 9 (by kernel_rfl) ?_
  refine wpOp_call rfl rfl 38 #[.slice a L.map.length cap, .int .i64 L.next, .int .i64 n] (by go_simp) C1.out ?_
  rintro e w1 ⟨v', rfl, hown, b1⟩
  replace b1 : Below w.heap.size w w1 := (drewsB w 1).trans (b1.mono (Nat.le_refl _))
  obtain ⟨va, vc, rfl⟩ := ownsRow_slice hown
  have I1 := Hd.out.keep b1
  have k9 := (b1.cell (p := ⟨m.p, 9, none⟩) hlt).trans c9
  obtain ⟨_, _, -, -, -, -, d10, -, -, d13, k14, -, -⟩ := I1.cells
  rw [HX.out] at d13
  obtain ⟨p0, p1, p2, p3, p4, p5, p6, p7, hps, z1, z2, z3, z4, z5, z6, z7, z8⟩ := I1.cells8
  have HI1 := hide I1
  have Hown := hide hown
  have Hb1 := hide b1
  have Hps := hide hps
  clear b1 C1 hown I1 hps c9 c10 c13 c14 d9 d14
  refine ⟨_, rfl, ⟨k9, k14⟩, ?_⟩
  refine HeadT.take 10 (.tuple #[.slice va M.length vc, .int .i64 0]) rfl (by kernel_rfl) (.inl ⟨rfl, fun w2 ⟨t0, t1⟩ => by go_simp⟩) ⟨k9, k14⟩ ?_
  refine HeadT.take 11 (.slice va M.length vc) rfl (by kernel_rfl) (.inl ⟨rfl, fun w2 ⟨t0, t1⟩ => by go_simp⟩) ⟨k9, k14⟩ ?_
  refine HeadT.take 12 (.int .i64 0) rfl (by kernel_rfl) (.inl ⟨rfl, fun w2 ⟨t0, t1⟩ => by go_simp⟩) ⟨k9, k14⟩ ?_
  refine HeadT.only 13 (by kernel_rfl) ?_
  refine wpOp_val rfl rfl (v := .slice va M.length vc) (w' := w1) (by go_simp) ⟨⟨k9, k14⟩, ?_⟩
  refine HeadT.tail rfl (by kernel_rfl) ?_
  simp only [List.drop_succ_cons, List.drop_zero]
  go_wp2_with fail
  try simp only [noPanic]
  go_wp2_with fail
  go_quiet (fail)
  go_wp2_with fail
  obtain ⟨W2, hW2⟩ : ∃ W2, (w1.drewN nq).drew = W2 := ⟨_, rfl⟩
  have b2 : Below w1.heap.size w1 W2 := by rw [← hW2]; exact (drewsB w1 nq).trans ((drewsB (w1.drewN nq) 1).mono (Nat.le_refl _))
  have b02 := Hb1.out.trans (b2.mono Hb1.out.size)
  have HI2 := hide (HI1.out.keep b2)
  have Hown2 := hide (own_below Hown.out b2)
  have C3 := hide (C2.out W2 b02)
  have C5 := hide (segsSeal_calls B (L.map.length : Int) m.ss L.segs W2 HI2.out.segs (Nat.le_trans hB b02.size) Hok.out (Hp.out.below (b02.mono hB)) (fun S h1 h2 => Hse.out S h1 (by omega)) p0 p1 p2 p3 p4 p5 p6 p7 Hps.out)
  have hlt1 := HI1.out.lt
  replace z1 := (b2.cell (p := ⟨m.p, 1, none⟩) hlt1).trans z1
  replace z2 := (b2.cell (p := ⟨m.p, 2, none⟩) hlt1).trans z2
  replace z3 := (b2.cell (p := ⟨m.p, 3, none⟩) hlt1).trans z3
  replace z4 := (b2.cell (p := ⟨m.p, 4, none⟩) hlt1).trans z4
  replace z5 := (b2.cell (p := ⟨m.p, 5, none⟩) hlt1).trans z5
  replace z6 := (b2.cell (p := ⟨m.p, 6, none⟩) hlt1).trans z6
  replace z7 := (b2.cell (p := ⟨m.p, 7, none⟩) hlt1).trans z7
  replace z8 := (b2.cell (p := ⟨m.p, 8, none⟩) hlt1).trans z8
  have HB2 := hide b02
  clear b2 b02 HI1 Hown C2 d10 d13 k14 k9
  refine region_headT 7 (fun W => W.cell? ⟨m.p, 1, none⟩ = some (.pointer (some ⟨p0, 0, none⟩)) ∧ W.cell? ⟨m.p, 2, none⟩ = some (.pointer (some ⟨p1, 0, none⟩)) ∧ W.cell? ⟨m.p, 3, none⟩ = some (.pointer (some ⟨p2, 0, none⟩)) ∧ W.cell? ⟨m.p, 4, none⟩ = some (.pointer (some ⟨p3, 0, none⟩)) ∧ W.cell? ⟨m.p, 5, none⟩ = some (.pointer (some ⟨p4, 0, none⟩)) ∧ W.cell? ⟨m.p, 6, none⟩ = some (.pointer (some ⟨p5, 0, none⟩)) ∧ W.cell? ⟨m.p, 7, none⟩ = some (.pointer (some ⟨p6, 0, none⟩)) ∧ W.cell? ⟨m.p, 8, none⟩ = some (.pointer (some ⟨p7, 0, none⟩))) (by kernel_rfl) (by decide) ?_
  rw [hW2]
  clear hW2
  refine HeadT.take 0 (.pointer (some ⟨m.p, 0, none⟩)) rfl (by kernel_rfl) (.inl ⟨rfl, fun w2 ⟨t0, t1, t2, t3, t4, t5, t6, t7⟩ => by go_simp⟩) ⟨z1, z2, z3, z4, z5, z6, z7, z8⟩ ?_
  refine HeadT.take 1 (.pointer (some ⟨m.p, 0, none⟩)) rfl (by kernel_rfl) (.inl ⟨rfl, fun w2 ⟨t0, t1, t2, t3, t4, t5, t6, t7⟩ => by go_simp⟩) ⟨z1, z2, z3, z4, z5, z6, z7, z8⟩ ?_
  refine HeadT.take 2 (.pointer (some ⟨m.p, 1, none⟩)) rfl (by kernel_rfl) (.inl ⟨rfl, fun w2 ⟨t0, t1, t2, t3, t4, t5, t6, t7⟩ => by go_simp⟩) ⟨z1, z2, z3, z4, z5, z6, z7, z8⟩ ?_
  refine HeadT.take 3 (.agg #[.pointer (some ⟨p0, 0, none⟩), .pointer (some ⟨p1, 0, none⟩), .pointer (some ⟨p2, 0, none⟩), .pointer (some ⟨p3, 0, none⟩), .pointer (some ⟨p4, 0, none⟩), .pointer (some ⟨p5, 0, none⟩), .pointer (some ⟨p6, 0, none⟩), .pointer (some ⟨p7, 0, none⟩)]) rfl (by kernel_rfl) (.inl ⟨rfl, fun w2 ⟨t0, t1, t2, t3, t4, t5, t6, t7⟩ => by go_simp⟩) ⟨z1, z2, z3, z4, z5, z6, z7, z8⟩ ?_
  refine HeadT.take 4 (.pointer (some ⟨m.p, 0, none⟩)) rfl (by kernel_rfl) (.inl ⟨rfl, fun w2 ⟨t0, t1, t2, t3, t4, t5, t6, t7⟩ => by go_simp⟩) ⟨z1, z2, z3, z4, z5, z6, z7, z8⟩ ?_
  refine HeadT.only 5 (by kernel_rfl) ?_
  refine wpOp_call rfl rfl 29 #[.pointer (some ⟨m.p, 0, none⟩)] (by go_simp) C3.out ?_
  rintro x w3 ⟨rfl, hw3⟩
  subst hw3
  refine ⟨_, rfl, ⟨z1, z2, z3, z4, z5, z6, z7, z8⟩, ?_⟩
  refine HeadT.only 6 (by kernel_rfl) ?_
  refine wpOp_call rfl rfl 74 #[.agg #[.pointer (some ⟨p0, 0, none⟩), .pointer (some ⟨p1, 0, none⟩), .pointer (some ⟨p2, 0, none⟩), .pointer (some ⟨p3, 0, none⟩), .pointer (some ⟨p4, 0, none⟩), .pointer (some ⟨p5, 0, none⟩), .pointer (some ⟨p6, 0, none⟩), .pointer (some ⟨p7, 0, none⟩)], .int .i64 (L.map.length : Int)] (by go_simp) C5.out ?_
  rintro x w4 ⟨ss4, rfl, hs4, h84, hp4, hn4, t4⟩
  have I4 := HI2.out.segs_go hs4 h84 hp4 t4 (fun x h => h) (fun x hx => (hn4 x hx))
  obtain ⟨r0, r1, r2, r3, r4, r5, r6, r7, hps4, y1, y2, y3, y4, y5, y6, y7, y8⟩ := I4.cells8
  dsimp only at hps4 y1 y2 y3 y4 y5 y6 y7 y8
  obtain ⟨rfl, rfl, rfl, rfl, rfl, rfl, rfl, rfl⟩ : r0 = p0 ∧ r1 = p1 ∧ r2 = p2 ∧ r3 = p3 ∧ r4 = p4 ∧ r5 = p5 ∧ r6 = p6 ∧ r7 = p7 := by rw [hp4, Hps.out] at hps4; simpa using hps4.symm
  refine ⟨_, rfl, ⟨y1, y2, y3, y4, y5, y6, y7, y8⟩, ?_⟩
  refine HeadT.tail rfl (by kernel_rfl) ?_
  simp only [List.drop_succ_cons, List.drop_zero]
  have HI4 := hide I4
  have HT4 := hide t4
  have HN4 := hide hn4
  clear I4 hs4 hp4 hn4 t4 C3 C5 z1 z2 z3 z4 z5 z6 z7 z8 y1 y2 y3 y4 y5 y6 y7 y8 hps4
  go_wp2_with fail
  try simp only [noPanic]
  go_wp2_with fail
  have B24 := HT4.out.below (Nat.le_trans hB HB2.out.size) fun x _ hx => (HI2.out.segs.on hx).1
  have r4 := row_firm (ownsRow_low Hown2.out (Nat.zero_le _)) HT4.out HI2.out.segs.firm span_firm
  have B04 := (HB2.out.mono hB).trans B24
  have C6 := hide (C4.out w4 _ B04 (OwnsM.map r4))
  have HB04 := hide B04
  have HR4 := hide r4
  clear B24 r4 B04 C4
  go_wp2_with fail
  refine C6.out.mono ?_
  rintro e w5 ⟨rfl, b5⟩
  have I5 := HI4.out.keep b5
  have C7 := hide (note_calls B _ _ (.map M) w5 I5 (Nat.le_trans hB (Nat.le_trans HB04.out.size b5.size)) hsz He.out)
  dsimp only at C7
  have HI5 := hide I5
  have HR5 := hide (own_below HR4.out b5)
  have HB5 := hide b5
  clear I5 b5 C6
  go_wp2_with fail
  refine C7.out.mono ?_
  rintro e w6 ⟨rfl, m6, hp6, I6, T6, N6⟩
  obtain ⟨_, _, -, -, -, k9, -, -, -, -, -, fz, -⟩ := I6.cells
  dsimp only at hp6
  rw [hp6] at fz k9
  have f9 := fz 9
  have r6 := row_firm HR5.out T6 HI5.out.firm span_firm
  have HX6 := hide (I6.set_map (.slice va M.length vc) M r6)
  have HT6 := hide T6
  have HN6 := hide N6
  rw [hp6] at HX6
  clear I6 T6 N6 fz r6 C7
  go_wp2_with fail
  go_ret
  have s2 := HB2.out.size
  have s4 := HT4.out.size
  have s5 := HB5.out.size
  have n4 : ∀ x, LogM.on ⟨m.p, m.dp, m.dg, ss4⟩ x → m.on x ∨ w.heap.size ≤ x := fun x hx => by
    rcases hx with h | h | h
    · exact .inl (.inl h)
    · exact .inl (.inr (.inl h))
    · rcases HN4.out x h with h5 | h5
      · exact .inl (.inr (.inr h5))
      · exact .inr (by omega)
  have n6 : ∀ x, m6.on x → m.on x ∨ w.heap.size ≤ x := fun x hx => by
    rcases HN6.out x hx with h | h
    · exact n4 x h
    · exact .inr (by omega)
  have T1 : Touch m.on w w5 := ((HT4.out.of_touch HB2.out).mono fun x _ h => .inr (.inr h)).new HB5.out
  refine ⟨rfl, m6, hp6, HX6.out.1, (T1.next HT6.out fun x hx h => ?_).next HX6.out.2 fun x hx h => ?_, n6⟩
  · rcases n4 x h with h5 | h5
    · exact h5
    · omega
  · rcases n6 x h with h5 | h5
    · exact h5
    · omega

end Go.Proofs.YtjbjjfndkpcciaaGreatDoor

/- The own disk's lines are read: one by one. Own work; no statement. -/
set_option linter.unusedSimpArgs false
set_option linter.unusedVariables false
namespace Go.Proofs.YtjbjjfndkpcciaaGreatDoor
open Go.RowKit Go.Shelf Go.Sort

/-- The log's own cells, and its rows. -/
def Cells (W : World) (m : LogM) (L : LogD) (vs vg : Value) : Prop := W.heap[m.p]? = some (.cells (logCells m.dp (ptrs m.ss) vs vg L) 87 (0, 0)) ∧ W.ownsRow 0 118 2 vs L.map.length (cellsM L.map) ∧ W.ownsRow 0 3 1 vg L.gone.length (L.gone.map (Value.int .i64))
theorem Cells.keep {w w' : World} {m : LogM} {L : LogD} {vs vg : Value} (h : Cells w m L vs vg) (hb : Go.RowKit.Below w.heap.size w w') : Cells w' m L vs vg :=
  ⟨(hb.block _ (ltAt h.1)).trans h.1, ownsRow_of_heap h.2.1 fun k e => hb.block k (h.2.1.lt k e).2, ownsRow_of_heap h.2.2 fun k e => hb.block k (h.2.2.lt k e).2⟩
theorem Cells.firm {w : World} {m : LogM} {L : LogD} {vs vg : Value} (h : Cells w m L vs vg) : Firm w fun k => k = m.p := firm_one h.1 ⟨by decide, by decide, by decide⟩
theorem Cells.set_trim {w : World} {m : LogM} {L : LogD} {vs vg : Value} (h : Cells w m L vs vg) (n : Int) : Cells (w.setCell ⟨m.p, 11, none⟩ (.int .i64 n)) m { L with trim := n } vs vg :=
  ⟨by simpa [logCells] using setAt (j := 11) h.1 (.int .i64 n), row_firm (X := fun k => k = m.p) h.2.1 (touch_set w _ _ rfl) h.firm span_firm, row_firm (X := fun k => k = m.p) h.2.2 (touch_set w _ _ rfl) h.firm int_firm⟩
theorem Cells.set_gone {w : World} {m : LogM} {L : LogD} {vs vg : Value} (h : Cells w m L vs vg) (v : Value) (l : List Int) (hr : w.ownsRow 0 3 1 v l.length (l.map (Value.int .i64))) : Cells (w.setCell ⟨m.p, 12, none⟩ v) m { L with gone := l } vs v :=
  ⟨by simpa [logCells] using setAt (j := 12) h.1 v, row_firm (X := fun k => k = m.p) h.2.1 (touch_set w _ _ rfl) h.firm span_firm, row_firm (X := fun k => k = m.p) hr (touch_set w _ _ rfl) h.firm int_firm⟩
theorem Cells.set_map {w : World} {m : LogM} {L : LogD} {vs vg : Value} (h : Cells w m L vs vg) (v : Value) (l : MapD) (hr : w.ownsRow 0 118 2 v l.length (cellsM l)) : Cells (w.setCell ⟨m.p, 9, none⟩ v) m { L with map := l } v vg :=
  ⟨by simpa [logCells] using setAt (j := 9) h.1 v, row_firm (X := fun k => k = m.p) hr (touch_set w _ _ rfl) h.firm span_firm, row_firm (X := fun k => k = m.p) h.2.2 (touch_set w _ _ rfl) h.firm int_firm⟩
theorem Cells.c9 {w : World} {m : LogM} {L : LogD} {vs vg : Value} (h : Cells w m L vs vg) : w.cell? ⟨m.p, 9, none⟩ = some vs := by simpa [logCells] using cellsAt h.1 9
theorem Cells.c11 {w : World} {m : LogM} {L : LogD} {vs vg : Value} (h : Cells w m L vs vg) : w.cell? ⟨m.p, 11, none⟩ = some (.int .i64 L.trim) := by simpa [logCells] using cellsAt h.1 11
theorem Cells.c12 {w : World} {m : LogM} {L : LogD} {vs vg : Value} (h : Cells w m L vs vg) : w.cell? ⟨m.p, 12, none⟩ = some vg := by simpa [logCells] using cellsAt h.1 12
/-- The log, where no other of its blocks has changed. -/
theorem IsLog.of_cells {w W : World} {B : Nat} {m : LogM} {L L' : LogD} {vs vg : Value} (h : IsLog w B m L) (t : Touch (fun k => k = m.p) w W) (hc : Cells W m L' vs vg) (hD : L'.own = L.own) (hS : L'.segs = L.segs) : IsLog W B m L' ∧ Touch m.on w W :=
  h.nums hD hS t fun _ _ _ _ _ => ⟨vs, vg, hc⟩

set_option maxHeartbeats 2000000 in
set_option maxRecDepth 100000 in
theorem readTrim_calls (m : LogM) (L : LogD) (p : Int) (v : List Int) (vs vg : Value) (w : World) (hd : Cells w m L vs vg) (h0 : 0 ≤ p) (h1 : p ≤ 2147483647) (h2 : L.trim ≤ p) (hv : InS v) (h8 : v.length ≤ 8) :
    Calls Tryz.prog 126 #[.pointer (some ⟨m.p, 0, none⟩), .string ⟨(Lib.itoa p ++ 32 :: textL v).toArray⟩] w fun e w' => e = .returned (.bool true) ∧ Touch (fun k => k = m.p) w w' ∧ ∃ gv, Cells w' m { L with trim := p, gone := v.take (writtenL v) } vs gv ∧ (∀ q, gv.ownBlock = some q → w.heap.size ≤ q) := by
  have a1 := Lib.itoa_length_le p (by omega) (by omega)
  have a2 := textL_length (l := v) fun x hx => by have := hv x hx; omega
  have hcut := cut_at (Lib.itoa p) (textL v) 32 (itoa_ne h0 (by decide))
  have C1 := hide (cut_calls (Lib.itoa p ++ 32 :: textL v) 32 w (by simp only [List.length_append, List.length_cons]; omega))
  rw [hcut] at C1
  dsimp only at C1
  have C2 := hide (fun W => numParse_calls ⟨(Lib.itoa p).toArray⟩ W (by simp [ByteArray.size]; omega))
  have hn := numL_itoa h0 h1
  rw [show (⟨(Lib.itoa p).toArray⟩ : ByteArray).data.toList = Lib.itoa p from rfl, hn] at C2
  dsimp only at C2
  have C3 := hide (fun W => parseO_calls ⟨(textL v).toArray⟩ W (by simp [ByteArray.size]; omega))
  rw [show (⟨(textL v).toArray⟩ : ByteArray).data.toList = textL v from rfl, parse_text v hv h8] at C3
  dsimp only at C3
  obtain ⟨gl, hgl⟩ : ∃ gl, v.take (writtenL v) = gl := ⟨_, rfl⟩
  rw [hgl] at C3 ⊢
  obtain ⟨T, hT⟩ : ∃ T, (⟨(Lib.itoa p ++ 32 :: textL v).toArray⟩ : ByteArray) = T := ⟨_, rfl⟩
  rw [hT] at C1 ⊢
  generalize (⟨(Lib.itoa p).toArray⟩ : ByteArray) = S1 at *
  generalize (⟨(textL v).toArray⟩ : ByteArray) = S2 at *
  clear hcut hn hT hgl hv h8 a1 a2
  have Hd := hide hd
  clear hd
  go_enter Tryz.func126, Tryz.ntmps126
  go_wp2_with (first | (go_at_call 125; refine C1.out.mono ?_; rintro e w' ⟨rfl, nq, hw'⟩; subst hw'))
  refine (C2.out _).mono ?_
  rintro e w2 ⟨rfl, hw2⟩
  subst hw2
  go_wp2_with fail
  refine (C3.out _).mono ?_
  rintro e w3 ⟨gv, rfl, hown, hb⟩
  obtain ⟨ga, gc, rfl⟩ := ownsRow_slice hown
  have b3 : Go.RowKit.Below w.heap.size w w3 := (drewsB w nq).trans (hb.mono (Nat.le_refl _))
  have I3 := Hd.out.keep b3
  have d11 := I3.c11
  have d12 := I3.c12
  have g11 := frozenAt I3.1 11
  have g12 := frozenAt I3.1 12
  have HI := hide I3
  have HO := hide (ownsRow_low hown (Nat.zero_le _))
  have HN := hide (fun q (e : (Value.slice ga gl.length gc).ownBlock = some q) => Nat.le_trans (Nat.le_refl w.heap.size) (hown.lt q e).1)
  have HB := hide b3
  clear I3 hown hb b3 C1 C2 C3
  go_wp2_with fail
  have I6 := (HI.out.set_trim p).set_gone (.slice ga gl.length gc) gl (row_firm (X := fun k => k = m.p) HO.out (touch_set w3 _ _ rfl) HI.out.firm int_firm)
  have HI6 := hide I6
  have HT6 := hide (((touch_new (S := fun k => k = m.p) HB.out).set ⟨m.p, 11, none⟩ (.int .i64 p) rfl).set ⟨m.p, 12, none⟩ (.slice ga gl.length gc) rfl)
  clear I6
  go_ret
  exact ⟨rfl, HT6.out, _, HI6.out, HN.out⟩

set_option maxHeartbeats 2000000 in
set_option maxRecDepth 100000 in
theorem readMap_calls (m : LogM) (L : LogD) (M : MapD) (vs vg : Value) (w : World) (hd : Cells w m L vs vg) (hok : okMap M = true) (hM : MapS M) (hl : (textM M).length ≤ 1073741824) :
    Calls Tryz.prog 127 #[.pointer (some ⟨m.p, 0, none⟩), .string ⟨(textM M).toArray⟩] w fun e w' => e = .returned (.bool true) ∧ Touch (fun k => k = m.p) w w' ∧ ∃ sv, Cells w' m { L with map := M } sv vg := by
  have C1 := hide (mapParse_calls (textM M) w hl)
  rw [parse_textM hM hok] at C1
  dsimp only at C1
  generalize (⟨(textM M).toArray⟩ : ByteArray) = S1 at *
  clear hM hok hl
  have Hd := hide hd
  clear hd
  go_enter Tryz.func127, Tryz.ntmps127
  go_wp2_with fail
  refine C1.out.mono ?_
  rintro e w3 ⟨gv, rfl, hown, b3⟩
  obtain ⟨ga, gc, rfl⟩ := ownsRow_slice hown
  have I3 := Hd.out.keep b3
  have d9 := I3.c9
  have g9 := frozenAt I3.1 9
  have HI := hide (I3.set_map (.slice ga M.length gc) M (ownsRow_low hown (Nat.zero_le _)))
  have HT := hide ((touch_new (S := fun k => k = m.p) b3).set ⟨m.p, 9, none⟩ (.slice ga M.length gc) rfl)
  clear I3 hown b3 C1
  go_wp2_with fail
  go_ret
  exact ⟨rfl, HT.out, _, HI.out⟩

end Go.Proofs.YtjbjjfndkpcciaaGreatDoor

/- The own disk is read. Own work; no statement. -/
set_option linter.unusedSimpArgs false
set_option linter.unusedVariables false
namespace Go.Proofs.YtjbjjfndkpcciaaGreatDoor
open Go.RowKit Go.Shelf Go.Sort

attribute [local go_sem] Oper.semAt_some

theorem IsLog.types {w : World} {B : Nat} {m : LogM} {L : LogD} (h : IsLog w B m L) {k : Nat} (hk : m.on k) : ∃ c t, w.heap[k]? = some (.cells c t (0, 0)) := by
  obtain ⟨vs, vg, hp, -⟩ := h.val
  rcases hk with rfl | hk | ⟨i, n, hi, hk⟩
  · exact ⟨_, _, hp⟩
  · obtain ⟨c, t, e, -⟩ := h.own.types hk
    exact ⟨c, t, e⟩
  · obtain ⟨S, -, hS⟩ := h.segs.isx hi
    obtain ⟨-, -, c, t, e, -⟩ := hS.types hk
    exact ⟨c, t, e⟩
theorem IsLog.grown {X Y : World} {row : Option Nat} {B : Nat} {m : LogM} {L : LogD} (h : IsLog X B m L) (hg : X.grownBy Y row) (hrow : ∀ r, row = some r → ∃ o : Obj, X.heap[r]? = some o ∧ o.isCells = false) : IsLog Y B m L := by
  refine h.touch (X := fun k => row = some k) ⟨hg.os, hg.tape, hg.output, hg.size, fun k hk hn => hg.block k hk fun e => hn e.symm⟩ (fun k hk c t f e => ?_) fun k hk e => ?_
  · obtain ⟨o, h1, h2⟩ := hrow k hk
    rw [e] at h1
    cases h1
    cases h2
  · obtain ⟨o, h1, h2⟩ := hrow k e
    obtain ⟨c, t, h3⟩ := h.types hk
    rw [h3] at h1
    cases h1
    cases h2
/-- What is no cell is as it was where a log alone has changed. -/
theorem IsLog.keepsFrom {W W' : World} {B n : Nat} {m : LogM} {L : LogD} (h : IsLog W B m L) (t : Touch m.on W W') : KeepsFrom n W W' :=
  ⟨t.size, fun k o _ hk ho => (t.block k (ltAt hk) fun e => by
    obtain ⟨c, ty, h1⟩ := h.types e
    rw [hk] at h1
    cases h1
    cases ho).trans hk⟩
theorem Cells.keepsFrom {W W' : World} {n : Nat} {m : LogM} {L : LogD} {vs vg : Value} (h : Cells W m L vs vg) (t : Touch (fun k => k = m.p) W W') : KeepsFrom n W W' :=
  ⟨t.size, fun k o _ hk ho => (t.block k (ltAt hk) fun e => by
    rw [e, h.1] at hk
    cases hk
    cases ho).trans hk⟩
/-- A row's front. -/
theorem row_front {w : World} {B : Nat} {e s : Nat} {a : Option Addr} {n cap : Nat} {xs : List Value} (h : w.ownsRow B e s (.slice a n cap) n xs) (k : Nat) (hk : k ≤ n) (h0 : 0 < k) : w.ownsRow B e s (.slice a k cap) k (xs.take (k * s)) ∧ n ≤ cap := by
  obtain ⟨h1, h2⟩ := h
  have hks : k * s ≤ n * s := Nat.mul_le_mul_right s hk
  rcases h2 with ⟨e1, rfl⟩ | ⟨g, cap', cur, e1, hb, hg, hn, hm, hs, ht⟩
  · omega
  · cases e1
    refine ⟨⟨by rw [List.length_take, h1]; omega, .inr ⟨g, cap, cur, rfl, hb, hg, by omega, hm, hs, ?_⟩⟩, hn⟩
    rw [← ht, List.take_take, Nat.min_eq_left hks]
theorem cellsM_take (m : MapD) (k : Nat) : (cellsM m).take (k * 2) = cellsM (m.take k) := by
  induction m generalizing k with
  | nil => simp [cellsM]
  | cons x r ih =>
    cases k with
    | zero => simp [cellsM]
    | succ k =>
      rw [cellsM_cons, List.take_succ_cons, cellsM_cons, ← ih k, show (k + 1) * 2 = k * 2 + 1 + 1 by omega]
      rfl

/-- A log whose own disk has been read so far. -/
def LogD.readS (L : LogD) (k : Nat) : LogD := { L with map := (runO L.st0 (L.ops.take k)).1, trim := (runO L.st0 (L.ops.take k)).2.1, gone := (runO L.st0 (L.ops.take k)).2.2 }

/-- Within read's loop. -/
structure InRead (w0 W : World) (m : LogM) (L : LogD) (k s : Nat) : Prop where
  b1 : Boxed W s 26 (.pointer (some ⟨m.p, 0, none⟩))
  b2 : Boxed W (s + 1) 3 (.int .i64 (k : Int))
  lt : m.p < s
  touch : Touch (fun k => k = m.p) w0 W
  cells : ∃ vs vg, Cells W m (L.readS k) vs vg ∧ vg.ownBlock ≠ some (s + 1)
theorem InRead.own {w0 X Y : World} {row : Option Nat} {m : LogM} {L : LogD} {k s : Nat} (h : InRead w0 X m L k s) (hg : X.grownBy Y row) (hrow : ∀ r, row = some r → w0.heap.size ≤ r ∧ ∃ o : Obj, X.heap[r]? = some o ∧ o.isCells = false) : InRead w0 Y m L k s := by
  obtain ⟨vs, vg, h1, h2⟩ := h.cells
  have hr := fun r e => (hrow r e).2
  exact ⟨boxed_own' hg hr h.b1, boxed_own' hg hr h.b2, h.lt, ownFrom_touch (β := Unit) (Nat.le_refl _) () _ _ _ h.touch hg hrow, vs, vg, ⟨(own_keeps hg hr h1.1).trans h1.1, ownsRow_own' hg hr h1.2.1, ownsRow_own' hg hr h1.2.2⟩, h2⟩
theorem InRead.log {w0 W : World} {B : Nat} {m : LogM} {L : LogD} {k s : Nat} (h : InRead w0 W m L k s) (hd : IsLog w0 B m L) : IsLog W B m (L.readS k) ∧ Touch m.on w0 W := by
  obtain ⟨vs, vg, h1, h2⟩ := h.cells
  exact hd.of_cells h.touch h1 rfl rfl
/-- A line more is read. -/
theorem InRead.next {w0 W W' : World} {m : LogM} {L : LogD} {k s : Nat} (h : InRead w0 W m L k s) (hs : w0.heap.size ≤ s) (t : Touch (fun k => k = m.p) W W') {vs vg : Value} (hc : Cells W' m (L.readS (k + 1)) vs vg) (hv : vg.ownBlock ≠ some (s + 1)) :
    InRead w0 (W'.setCell ⟨s + 1, 0, none⟩ (.int .i64 ((k : Int) + 1))) m L (k + 1) s := by
  have lt1 := h.b1.lt
  have lt2 := h.b2.lt
  have hl := h.lt
  have e1 : Boxed W' s 26 (.pointer (some ⟨m.p, 0, none⟩)) := boxed_of_heap h.b1 (t.block _ lt1 (by omega))
  have e2 : Boxed W' (s + 1) 3 (.int .i64 (k : Int)) := boxed_of_heap h.b2 (t.block _ lt2 (by omega))
  have hother : ∀ j, j ≠ s + 1 → (W'.setCell ⟨s + 1, 0, none⟩ (.int .i64 ((k : Int) + 1))).heap[j]? = W'.heap[j]? := fun j hj => Below.heap_setCell _ _ _ _ hj
  refine ⟨boxed_of_heap e1 (hother _ (by omega)), e2.set _, hl, ?_, vs, vg, ⟨(hother _ (by omega)).trans hc.1, ownsRow_of_heap hc.2.1 fun j hj => hother j fun e => ?_, ownsRow_of_heap hc.2.2 fun j hj => hother j fun e => ?_⟩, hv⟩
  · exact (h.touch.trans t).next (touch_set W' ⟨s + 1, 0, none⟩ _ (S := fun k => k = s + 1) rfl) fun i hi e => by omega
  · exact row_not hc.2.1 e2 (by decide) (by rw [← e]; exact hj.symm)
  · exact hv (by rw [hj, e])

theorem runO_trim0 : ∀ (l : List OwnOp) (s : OwnSt), OkOps s l → 0 ≤ s.2.1 → ∀ k, 0 ≤ (runO s (l.take k)).2.1
  | [], s, _, h, k => by simpa [runO] using h
  | o :: r, s, hk, h, 0 => h
  | o :: r, s, hk, h, k + 1 => by
    rw [List.take_succ_cons]
    refine runO_trim0 r (stepO s o) hk.2 ?_ k
    cases o with
    | inl pv => exact Int.le_trans h hk.1.1
    | inr m => exact h
theorem readS_succ {L : LogD} {k : Nat} (h : k < L.ops.length) : L.readS (k + 1) = (match L.ops[k] with
    | .inl (p, v) => { L.readS k with trim := p, gone := v.take (writtenL v) }
    | .inr m => { L.readS k with map := m }) := by
  unfold LogD.readS
  rw [runO_take _ _ _ h]
  cases L.ops[k] <;> rfl
theorem readS_zero {L : LogD} (ht : L.trim = 0) (hg : L.gone = []) : L.readS 0 = { L with map := L.map.take 1 } := by
  unfold LogD.readS
  rw [List.take_zero]
  simp only [runO, LogD.st0]
  rw [← ht, ← hg]

set_option maxRecDepth 100000 in
set_option maxHeartbeats 4000000 in
theorem read_calls (B : Nat) (m : LogM) (L : LogD) (w : World) (hd : IsLog w B m L) (hok : okMap L.map = true) (hops : OkOps L.st0 L.ops) (ht : L.trim = 0) (hg : L.gone = []) :
    Calls Tryz.prog 71 #[.pointer (some ⟨m.p, 0, none⟩)] w fun e w' => e = .returned (.tuple #[]) ∧ IsLog w' B m (L.readS L.ops.length) ∧ Touch m.on w w' := by
  have h0 := okMap_pos hok
  obtain ⟨W0, hW0⟩ : ∃ W0, w.alloc (.cells #[.pointer (some ⟨m.p, 0, none⟩)] 26) = W0 := ⟨_, rfl⟩
  have HB0 : Go.RowKit.Below w.heap.size w W0 := by rw [← hW0]; exact (Below.refl _ w).alloc (Nat.le_refl _) _
  have hs0 : W0.heap.size = w.heap.size + 1 := by rw [← hW0]; simp
  have x1 : Boxed W0 w.heap.size 26 (.pointer (some ⟨m.p, 0, none⟩)) := by rw [← hW0]; exact Boxed.new w _ _
  obtain ⟨vs, vg0, hc0⟩ := hd.val
  have hv0 : ∀ q, vg0.ownBlock = some q → q < w.heap.size := fun q e => (hc0.2.2.lt q e).2
  have I0 : Cells W0 m L vs vg0 := Cells.keep hc0 HB0
  obtain ⟨r0, r1, r2⟩ := id I0
  have c9 := I0.c9
  obtain ⟨sa, sc, rfl⟩ := ownsRow_slice r1
  obtain ⟨r9, hcap⟩ := row_front r1 1 h0 (by decide)
  rw [cellsM_take] at r9
  have f9 := frozenAt I0.1 9
  replace c9 : W0.drew.cell? ⟨m.p, 9, none⟩ = some (.slice sa L.map.length sc) := c9
  have k1 := I0.set_map (.slice sa 1 sc) (L.map.take 1) (by
    have : (L.map.take 1).length = 1 := by simp; omega
    rw [this]
    exact r9)
  have hlt := hd.lt
  have HW := hide hW0
  have Hd := hide hd
  have K1 := hide k1
  have K2 := hide (touch_set (S := fun k => k = m.p) W0 ⟨m.p, 9, none⟩ (.slice sa 1 sc) rfl)
  clear k1 hc0 r0 r2
  have bc1 : W0.drew.cell? ⟨w.heap.size, 0, none⟩ = some (.pointer (some ⟨m.p, 0, none⟩)) := x1.cell
  have h1c : 1 ≤ sc := by omega
  clear hd hW0 r1 r9 I0
  generalize L.map.length = n at *
  refine (callsIn_wide (n := 5)).1 ?_
  refine callsIn_of_wp_marks Tryz.func71 rfl trivial ?_ rfl
  simp only [Tryz.ntmps71, List.size_toArray, List.length_cons, List.length_nil, Nat.reduceAdd, Nat.reduceSub, Array.replicate_succ, Array.replicate_zero, List.push_toArray, List.append_toArray, List.nil_append, List.cons_append]
  refine wpIn_wide.2 ?_
  go_wp2_with fail
  rw [HW.out]
  go_step3
  go_wp2_with fail
  refine region_headT 6 (fun W => W.cell? ⟨w.heap.size, 0, none⟩ = some (.pointer (some ⟨m.p, 0, none⟩)) ∧ W.cell? ⟨m.p, 9, none⟩ = some (.slice sa n sc)) (by kernel_rfl) (by decide) ?_
  refine HeadT.take 0 (.pointer (some ⟨m.p, 0, none⟩)) rfl (by kernel_rfl) (.inl ⟨rfl, fun w2 ⟨t0, t1⟩ => by go_simp⟩) ⟨bc1, c9⟩ ?_
  refine HeadT.take 1 (.pointer (some ⟨m.p, 0, none⟩)) rfl (by kernel_rfl) (.inl ⟨rfl, fun w2 ⟨t0, t1⟩ => by go_simp⟩) ⟨bc1, c9⟩ ?_
  refine HeadT.take 2 (.pointer (some ⟨m.p, 0, none⟩)) rfl (by kernel_rfl) (.inl ⟨rfl, fun w2 ⟨t0, t1⟩ => by go_simp⟩) ⟨bc1, c9⟩ ?_
  refine HeadT.take 3 (.pointer (some ⟨m.p, 9, none⟩)) rfl (by kernel_rfl) (.inl ⟨rfl, fun w2 ⟨t0, t1⟩ => by go_simp⟩) ⟨bc1, c9⟩ ?_
  refine HeadT.take 4 (.slice sa n sc) rfl (by kernel_rfl) (.inl ⟨rfl, fun w2 ⟨t0, t1⟩ => by go_simp⟩) ⟨bc1, c9⟩ ?_
  refine HeadT.take 5 (.slice sa 1 sc) rfl (by kernel_rfl) (.inl ⟨rfl, fun w2 ⟨t0, t1⟩ => by go_simp; intro h; exact absurd h (by omega)⟩) ⟨bc1, c9⟩ ?_
  refine HeadT.tail rfl (by kernel_rfl) ?_
  simp only [List.drop_succ_cons, List.drop_zero]
  clear bc1
  go_wp2_with fail
  try simp only [noPanic]
  go_wp2_with fail
  clear c9 f9
  obtain ⟨W2, hW2⟩ : ∃ W2, ((W0.setCell ⟨m.p, 9, none⟩ (.slice sa 1 sc)).alloc (.cells #[.int .i64 0] 3)).drew = W2 := ⟨_, rfl⟩
  have b12 : Go.RowKit.Below (W0.setCell ⟨m.p, 9, none⟩ (.slice sa 1 sc)).heap.size (W0.setCell ⟨m.p, 9, none⟩ (.slice sa 1 sc)) W2 := by rw [← hW2]; exact (box_below _ _).drew
  have hsS : (W0.setCell ⟨m.p, 9, none⟩ (.slice sa 1 sc)).heap.size = w.heap.size + 1 := by rw [← hs0]; simp [World.setCell]
  have x2 : Boxed W2 (w.heap.size + 1) 3 (.int .i64 0) := by
    rw [← hW2]
    have := Boxed.new (W0.setCell ⟨m.p, 9, none⟩ (.slice sa 1 sc)) 3 (.int .i64 0)
    rw [hsS] at this
    exact this
  have x1' : Boxed W2 w.heap.size 26 (.pointer (some ⟨m.p, 0, none⟩)) := boxed_of_heap x1 ((b12.block _ (by omega)).trans (Below.heap_setCell _ _ _ _ (by dsimp only; omega)))
  have bc1 := x1'.cell
  have I2 := K1.out.keep b12
  have T2 : Touch (fun k => k = m.p) w W2 := (K2.out.of_touch HB0).new b12
  have hs2 := b12.size
  obtain ⟨J2, T2'⟩ := Hd.out.of_cells T2 I2 rfl rfl
  obtain ⟨_, _, -, -, c0, -, -, -, -, -, -, -, -⟩ := J2.cells
  have C := hide (diskLines_new B m.dp m.dg L.own W2 J2.own)
  rw [hW2]
  have HI2 := hide I2
  have HT2 := hide T2
  clear hW2 b12 I2 T2 J2 T2' K1 K2 x1 HB0 HW
  go_step3
  go_wp2_with fail
  refine C.out.mono ?_
  rintro e w1 ⟨b, vs, rfl, hb, hbox, hrow, hB1⟩
  go_wp2_with fail
  have hl := Hd.out.own.len
  have hll : L.own.lines.length = L.ops.length := by unfold LogD.own; simp
  rw [hll] at hl
  have hB1' := hB1.size
  have lt1 := x1'.lt
  have lt2 := x2.lt
  have i0 : InRead w w1 m L 0 w.heap.size := ⟨boxed_of_heap x1' (hB1.block _ lt1), boxed_of_heap x2 (hB1.block _ lt2), hlt, HT2.out.new hB1, _, vg0, by rw [readS_zero ht hg]; exact HI2.out.keep hB1, fun e => by have := hv0 _ e; omega⟩
  have hsz12 : w.heap.size + 1 < W2.heap.size := lt2
  have hin : ∀ k, onDisk b vs.ownBlock k → k < w1.heap.size ∧ w.heap.size + 2 ≤ k := fun k hk => by
    rcases hk with rfl | e
    · exact ⟨ltAt hbox, by omega⟩
    · exact ⟨(hrow.lt k e).2, by have := (hrow.lt k e).1; omega⟩
  have Hin := hide hin
  have hmon : ∀ k, m.on k → k < w.heap.size := fun k hk => (Hd.out.on hk).2
  have Hon := hide hmon
  have Hops := hide hops
  clear HI2 HT2 c0 C hmon hops bc1
  refine (wpIn_wide (n := 5)).1 ?_
  refine range_lawL (by decide) (gf := 159) (lb := #[.pointer (some ⟨b, 0, none⟩)]) rfl (enters_of Tryz.func159 (by kernel_rfl) rfl)
    (lines_seq 4 (by decide) b vs vs.ownBlock L.own.lines (by omega) w1 hbox rfl (ownsRow_low hrow (Nat.zero_le _))) keepsSeq_t (keepsSeq_b fun k hk => (hin k hk).1) (fun _ => rfl)
    (fun k W => InRead w W m L k w.heap.size ∧ w1.heap.size ≤ W.heap.size)
    (fun c k W => False)
    (fun k X Y row hs hg hr => ⟨hs.1.own hg fun r e => ⟨by have := (hr r e).1; omega, (hr r e).2⟩, Nat.le_trans hs.2 hg.size⟩)
    (fun c => fun k X Y row hs hg hr => hs.elim)
    ⟨i0, Nat.le_refl _⟩
    (fun x => { tmps := #[.pointer (some ⟨m.p, 0, none⟩), .pointer (some ⟨w.heap.size, 0, none⟩), .pointer (some ⟨w.heap.size + 1, 0, none⟩), undef, .string x.2, undef, undef, undef, undef, .pointer (some ⟨m.p, 0, none⟩), .pointer (some ⟨m.p, 0, none⟩), .pointer (some ⟨m.p, 0, none⟩), .pointer (some ⟨m.p, 9, none⟩), .slice sa n sc, .slice sa 1 sc, .pointer (some ⟨m.p, 0, none⟩), .pointer (some ⟨m.p, 9, none⟩), .pointer (some ⟨m.p, 0, none⟩), .pointer (some ⟨m.p, 0, none⟩), .pointer (some ⟨m.p, 0, none⟩), .pointer (some ⟨m.dp, 0, none⟩), .func (.func 159) #[] #[.pointer (some ⟨b, 0, none⟩)], .int .i64 (x.1 : Int), .string x.2, undef, undef, undef, undef, undef, undef, undef, undef, undef, undef, undef, undef, undef, undef, undef, undef, undef, undef, undef, undef, undef, undef, undef, undef, undef, undef, undef, undef, undef, undef, undef, undef, undef, undef, undef, undef, undef, undef, undef], defers := [] }) ?assign ?body ?done ?stop
  case assign =>
    intro l x W K hK
    clear x1' x2 hbox hrow i0
    dsimp only [encLine]
    gi_wp2
    exact hK
  case body =>
    clear x1' x2 hbox hrow i0 hin
    rintro lp k hk W ⟨hR, hW1⟩
    rw [placed_get]
    have hk' : k < L.ops.length := by rw [placed_length, hll] at hk; exact hk
    have hsz := bytesOf_mem (List.getElem_mem (by rw [placed_length] at hk; exact hk : k < L.own.lines.length))
    have hget : L.own.lines[k]'(by rw [placed_length] at hk; exact hk) = textO L.ops[k] := by unfold LogD.own; simp
    rw [hget] at hsz ⊢
    dsimp only
    have hmay := okOps_get L.ops L.st0 k hk' Hops.out
    have htr0 := runO_trim0 L.ops L.st0 Hops.out (Int.le_refl _) k
    have hnext := readS_succ hk'
    have c1 := hR.b1.cell
    have c2 := hR.b2.cell
    have f2 := hR.b2.frozen
    have HR := hide hR
    obtain ⟨vsR, vgR, hcR, hvR⟩ := hR.cells
    have HC := hide hcR
    clear hR hcR
    cases hop : L.ops[k] with
    | inl pv =>
      obtain ⟨p, v⟩ := pv
      rw [hop] at hsz hmay hnext
      obtain ⟨y1, y2, y3, y4⟩ := hmay
      have hcut := cut_at [116] (Lib.itoa p ++ 32 :: textL v) 32 (by intro c hc; rw [List.mem_singleton] at hc; rw [hc]; decide)
      obtain ⟨R, hR⟩ : ∃ R, Lib.itoa p ++ 32 :: textL v = R := ⟨_, rfl⟩
      have hln : textO (.trim p v) = ⟨([116] ++ 32 :: R).toArray⟩ := by rw [← hR]; rfl
      rw [hln] at hsz ⊢
      have hR8 : ([116] ++ 32 :: R).length ≤ 1099511627776 := by
        have e : (⟨([116] ++ 32 :: R).toArray⟩ : ByteArray).size = ([116] ++ 32 :: R).length := by simp [ByteArray.size]
        rw [e] at hsz
        omega
      have hRl : R.length ≤ 1073741824 := by
        have e : (⟨([116] ++ 32 :: R).toArray⟩ : ByteArray).size = R.length + 2 := by simp [ByteArray.size]
        rw [e] at hsz
        omega
      have u := hide (cut_calls ([116] ++ 32 :: R) 32 W hR8)
      rw [hR] at hcut
      rw [hcut] at u
      dsimp only at u
      have ur := hide (fun W' (h : Go.RowKit.Below W.heap.size W W') => readTrim_calls m (L.readS k) p v vsR vgR W' (HC.out.keep h) (Int.le_trans htr0 y1) y2 y1 y3 y4)
      rw [hR] at ur
      generalize (⟨([116] ++ 32 :: R).toArray⟩ : ByteArray) = LN at *
      clear hcut hR hln hR8 hRl hsz hget hop
      gi_wp2_with (first | (refine ⟨trivial, ?_⟩; gi_at_call 125; refine (CallsIn.inRound lp ((callsIn_wide (n := _)).2 u.out)).mono ?_; rintro e w2 ⟨rfl, nq, hw2⟩; subst hw2))
      refine ⟨trivial, ?_⟩
      refine (CallsIn.inRound lp ((callsIn_wide (n := _)).2 (ur.out _ (drewsB W nq)))).mono ?_
      rintro e w3 ⟨rfl, T3, gv, C3, N3⟩
      have e2 : Boxed w3 (w.heap.size + 1) 3 (.int .i64 (k : Int)) := boxed_of_heap HR.out.b2 (T3.block _ HR.out.b2.lt (by omega))
      have d2 := e2.cell
      have g2 := e2.frozen
      have T := T3.of_touch (drewsB W nq)
      rw [← hnext] at C3
      have hN := HR.out.next (Nat.le_refl _) T C3 (fun e => by have := N3 _ e; have : (W.drewN nq).heap.size = W.heap.size := rfl; have := HR.out.b2.lt; omega)
      have HN := hide hN
      have HT3 := hide T
      have lt2 := HR.out.b2.lt
      clear T3 T C3 hN u ur c1 c2 f2
      gi_wp2_with fail
      refine ⟨?_, fun j hj => ?_, HN.out, by have := HT3.out.size; simp [World.setCell]; omega⟩
      · exact (HC.out.keepsFrom HT3.out).trans ((KeepsOthers.setCell _ _ _).from _)
      · have h1 := Hin.out j hj
        exact (Below.heap_setCell _ _ _ _ (by dsimp only; omega)).trans (HT3.out.block j (by omega) (by omega))
    | inr M =>
      rw [hop] at hsz hmay hnext
      obtain ⟨y1, y2⟩ := hmay
      have hcut := cut_at [109] (textM M) 32 (by intro c hc; rw [List.mem_singleton] at hc; rw [hc]; decide)
      obtain ⟨R, hR⟩ : ∃ R, textM M = R := ⟨_, rfl⟩
      have hln : textO (.map M) = ⟨([109] ++ 32 :: R).toArray⟩ := by rw [← hR]; rfl
      rw [hln] at hsz ⊢
      have hR8 : ([109] ++ 32 :: R).length ≤ 1099511627776 := by
        have e : (⟨([109] ++ 32 :: R).toArray⟩ : ByteArray).size = ([109] ++ 32 :: R).length := by simp [ByteArray.size]
        rw [e] at hsz
        omega
      have hRl : R.length ≤ 1073741824 := by
        have e : (⟨([109] ++ 32 :: R).toArray⟩ : ByteArray).size = R.length + 2 := by simp [ByteArray.size]
        rw [e] at hsz
        omega
      have u := hide (cut_calls ([109] ++ 32 :: R) 32 W hR8)
      rw [hR] at hcut
      rw [hcut] at u
      dsimp only at u
      have ur := hide (fun W' (h : Go.RowKit.Below W.heap.size W W') => readMap_calls m (L.readS k) M vsR vgR W' (HC.out.keep h) y1 y2 (by rw [hR]; exact hRl))
      rw [hR] at ur
      generalize (⟨([109] ++ 32 :: R).toArray⟩ : ByteArray) = LN at *
      clear hcut hR hln hR8 hRl hsz hget hop
      gi_wp2_with (first | (refine ⟨trivial, ?_⟩; gi_at_call 125; refine (CallsIn.inRound lp ((callsIn_wide (n := _)).2 u.out)).mono ?_; rintro e w2 ⟨rfl, nq, hw2⟩; subst hw2))
      refine ⟨trivial, ?_⟩
      refine (CallsIn.inRound lp ((callsIn_wide (n := _)).2 (ur.out _ (drewsB W nq)))).mono ?_
      rintro e w3 ⟨rfl, T3, sv, C3⟩
      have e2 : Boxed w3 (w.heap.size + 1) 3 (.int .i64 (k : Int)) := boxed_of_heap HR.out.b2 (T3.block _ HR.out.b2.lt (by omega))
      have d2 := e2.cell
      have g2 := e2.frozen
      have T := T3.of_touch (drewsB W nq)
      rw [← hnext] at C3
      have hN := HR.out.next (Nat.le_refl _) T C3 hvR
      have HN := hide hN
      have HT3 := hide T
      have lt2 := HR.out.b2.lt
      clear T3 T C3 hN u ur c1 c2 f2
      gi_wp2_with fail
      refine ⟨?_, fun j hj => ?_, HN.out, by have := HT3.out.size; simp [World.setCell]; omega⟩
      · exact (HC.out.keepsFrom HT3.out).trans ((KeepsOthers.setCell _ _ _).from _)
      · have h1 := Hin.out j hj
        exact (Below.heap_setCell _ _ _ _ (by dsimp only; omega)).trans (HT3.out.block j (by omega) (by omega))
  case done =>
    clear x1' x2 hbox hrow i0 hin
    rintro Dd W hD ⟨hR, hW1⟩ hK
    rw [placed_length, hll] at hR
    have c1 := hR.b1.cell
    have c2 := hR.b2.cell
    obtain ⟨I, T⟩ := hR.log Hd.out
    obtain ⟨_, _, -, -, c0, -, -, -, -, -, -, -, -⟩ := I.cells
    have u1 := hide (fun n => diskLen_to B m.dp m.dg _ (L.ops.length : Int) (by rw [← hll]; rfl) (W.drewN n) (I.own.drews n))
    have HI := hide I
    have HT := hide T
    clear hR I T
    go_wp2_with fail
    go_quiet (first | (go_at_call 128; refine Calls.quiet_of_same (u1.out _)))
    go_wp2_with fail
    have K2 : (W.drewN nq).heap[Dd]? = some (.deferred (some [])) := hK
    refine ⟨by simp, .inl ⟨_, _, rfl, run_takeDeferred K2, ?_⟩⟩
    have hg := grownBy_putObj' (W.drewN nq) Dd (.deferred none)
    have hr : ∀ r, some Dd = some r → ∃ o : Obj, (W.drewN nq).heap[r]? = some o ∧ o.isCells = false := fun r e => by cases e; exact ⟨_, K2, rfl⟩
    exact ⟨.tuple #[], by simp [results, Tryz.f71, go_sem], rfl, (HI.out.drews nq).grown hg hr, ownFrom_touch (β := Unit) (show w.heap.size ≤ w.heap.size from Nat.le_refl _) () _ _ _ (HT.out.drewN nq) hg fun r e => ⟨by cases e; omega, hr r e⟩⟩
  case stop =>
    rintro Dd c k W hD hk h
    exact h.elim

end Go.Proofs.YtjbjjfndkpcciaaGreatDoor
