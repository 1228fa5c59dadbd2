/- Own work: the parts TK28 of the proof, laid together. -/
import Derived.Test.YtdkpbfigjdmfpaaPartTokenAdmit4
import Derived.Test.YtdkpbfigjdmfpaaPartTokenAdmit6
import Derived.Test.YtdkpbfigjdmfpaaPartTokenAdmit7
/- The law TokenAdmit of layer 9. Own work; no statement. -/
set_option linter.unusedSimpArgs false
set_option linter.unusedVariables false
namespace Go.Proofs.Ytdkpbfigjdmfpaa
open Go.RowKit Go.Shelf Go.Sort

/-- The reference's Admit of a token and drafts told twice: what is handed in and what it reads as. -/
theorem refAdmit_on {own next : Int} {seen : List Int} {late l : List DrD} {tu : TokD} {Lu : List (Int × DrD)} (e1 : (admitT ⟨own, next, seen, late⟩ l).1 = tu) (e2 : (admitT ⟨own, next, seen, late⟩ l).2 = Lu) (sv lt vl : Value) (xs ys : List Dv) (hxs : xs.map (·.d) = late) (hys : ys.map (·.d) = l)
    (w0 w : World) (h0w : RowKit.Below w0.heap.size w0 w) (hn : IsNums .i64 w0 sv seen) (hxr : RdD w lt xs) (hyr : RdD w vl ys) (hxn : ∀ q ∈ xs, IsNums .i64 w0 q.vd q.d.r.dep) (hyn : ∀ q ∈ ys, IsNums .i64 w0 q.vd q.d.r.dep) (hs : SeenOk seen)
    (ho1 : ∀ d ∈ late, DrOk d) (ho2 : ∀ d ∈ l, DrOk d) (hlen : late.length + l.length ≤ 1048576) (hx : 0 ≤ next ∧ next ≤ 1099511627776) :
    Calls Try.prog 18 #[.agg #[.int .i64 own, .int .i64 next, sv, lt], vl] w fun e w' => ∃ vt' vs, e = .returned (.tuple #[vt', vs]) ∧ IsTok w' vt' tu ∧ IsSls w' vs Lu ∧ RowKit.Below w.heap.size w w' := by
  subst e1 e2 hxs hys
  refine (refAdmit_calls own next seen sv lt vl xs ys w0 w h0w hn hxr hyr hxn hyn hs (fun d hd => (List.mem_append.1 hd).elim (ho1 d) (ho2 d)) (by simpa using hlen) hx).mono ?_
  rintro e w' ⟨vt', vs', he, ht, hs', hb⟩
  exact ⟨vt', vs', he, ht.tok, hs'.sls, hb⟩

set_option maxHeartbeats 8000000 in
set_option maxRecDepth 100000 in
theorem tokAdmit_calls (vt vl : Value) (t : TokD) (l : List DrD) (w : World) (ht : IsTok w vt t) (hl : IsDrs w vl l) :
    Calls Try.prog 3 #[vt, vl] w fun e w' => e = .returned (.bool true) ∧ RowKit.Below w.heap.size w w' := by
  obtain ⟨own, next, seen, late⟩ := t
  obtain ⟨sa, sc, la, lc, rfl, hn, hlate⟩ := ht
  dsimp only at *
  obtain ⟨va, vc, rfl⟩ := hl.form
  obtain ⟨W0, hW0, hsz, hB0, h0⟩ := new1T w #[.int .i64 own, .int .i64 next, .slice sa seen.length sc, .slice la late.length lc] 26
  have HX := hide (BoxT.mk hB0 h0)
  have CG := hide (fun V (hV : RowKit.Below w.heap.size w V) => good_calls (.agg #[.int .i64 own, .int .i64 next, .slice sa seen.length sc, .slice la late.length lc]) (.slice va l.length vc) ⟨own, next, seen, late⟩ l V ⟨_, _, _, _, rfl, hn.below hV, hlate.below hV⟩ (hl.below hV))
  have HW := hide hW0
  have HT := hide (show IsTok w (.agg #[.int .i64 own, .int .i64 next, .slice sa seen.length sc, .slice la late.length lc]) ⟨own, next, seen, late⟩ from ⟨_, _, _, _, rfl, hn, hlate⟩)
  have HL := hide hl
  have HN := hide hn
  have HLt := hide hlate
  clear hW0 hB0 h0 hsz hn hlate hl
  go_enter Try.func3, Try.ntmps3
  go_upto_region 1 with fail
  rw [HW.out]
  clear HW
  go_upto_region 3 with (go_at_call 8; refine (tokKnown_calls W0).mono ?_; rintro e w1 ⟨rfl, b1⟩; replace HX := hide (HX.out.new b1); clear b1)
  obtain ⟨x0, x1, x2, x3, -⟩ := cells4T HX.out.box
  have hxw := HX.out.lt
  go_cut [28] (fun s28 wx => s28 = .bool false ∧ BoxT w #[.int .i64 own, .int .i64 next, .slice sa seen.length sc, .slice la late.length lc] wx)
  case first =>
    clear CG
    by_cases h70 : 70 < (seen.length : Int)
    · have h7 : ¬ (seen.length : Int) ≤ 70 := by omega
      go_quiet (fail)
      repeat go_step
      go_meet
      case rel => exact ⟨rfl, HX.out.new (drewsB w1 nq)⟩
    have h7 : (seen.length : Int) ≤ 70 := by omega
    clear h70
    cases hf : fewD late with
    | false =>
      refine region_begin 17 (by kernel_rfl) (by kernel_rfl) ?_
      have hd0 : RowKit.Below w1.heap.size w1 w1.drew := (RowKit.Below.refl _ w1).drew
      have HX2 := hide (HX.out.new hd0)
      have HLt2 := hide (HLt.out.below HX2.out.below)
      obtain ⟨x0, x1, x2, x3, -⟩ := cells4T HX2.out.box
      clear HX hd0
      generalize w1.drew = V0 at *
      have QF := hide (fun d os => Calls.regrown_of (hf ▸ few9_calls (.slice la late.length lc) late (Go.Sort.grow (redrawn V0 d) os) (HLt2.out.below (below_regrown V0 d os))))
      replace x0 := cell_regrown x0
      replace x1 := cell_regrown x1
      replace x2 := cell_regrown x2
      replace x3 := cell_regrown x3
      clear hf
      refine quietFromB 0 (by kernel_rfl) (by kernel_rfl) ?_
      simp only [List.drop_zero]
      first | go_big_quiet_step (fail) | quiet_step (fail)
      first | go_big_quiet_step (fail) | quiet_step (fail)
      first | go_big_quiet_step (fail) | quiet_step (fail)
      first | go_big_quiet_step (fail) | quiet_step (fail)
      first | go_big_quiet_step (fail) | quiet_step (fail)
      first | go_big_quiet_step (fail) | quiet_step (fail)
      first | go_big_quiet_step (fail) | quiet_step (fail)
      first | go_big_quiet_step (exact QF.out _ _) | quiet_step (exact QF.out _ _)
      first | go_big_quiet_step (fail) | quiet_step (fail)
      first | go_big_quiet_step (fail) | quiet_step (fail)
      first | go_big_quiet_step (fail) | quiet_step (fail)
      first | go_big_quiet_step (fail) | quiet_step (fail)
      first | go_big_quiet_step (fail) | quiet_step (fail)
      first | go_big_quiet_step (fail) | quiet_step (fail)
      first | go_big_quiet_step (fail) | quiet_step (fail)
      first | go_big_quiet_step (fail) | quiet_step (fail)
      first | go_big_quiet_step (fail) | quiet_step (fail)
      refine wpQuiet_nil ?_
      intro _ hw'
      obtain ⟨⟨dq, osq⟩, hw''⟩ := hw'
      subst hw''
      clear x0 x1 x2 x3 QF
      go_simp
      try simp only [noPanic]
      repeat go_step
      go_meet
      case rel => exact ⟨rfl, HX2.out.new (below_regrown V0 dq osq)⟩
    | true =>
      have hlt := fewD_len hf
      refine region_begin 17 (by kernel_rfl) rfl ?_
      have hd0 : RowKit.Below w1.heap.size w1 w1.drew := (RowKit.Below.refl _ w1).drew
      have HX2 := hide (HX.out.new hd0)
      have HT2 := hide (HT.out.below HX2.out.below)
      have CF := hide (hf ▸ few9_calls (.slice la late.length lc) late w1.drew (HLt.out.below HX2.out.below))
      clear HX hd0 hf x0 x1 x2 x3
      generalize w1.drew = V0 at *
      have HS := hide (fun V (hV : RowKit.Below V0.heap.size V0 V) => four_of (HX2.out.new hV).box)
      have HV := hide (RowKit.Below.refl V0.heap.size V0)
      obtain ⟨c, hc⟩ : ∃ c, checkT ⟨own, next, seen, late⟩ = c := ⟨_, rfl⟩
      refine heldA (fun V => V.cell? ⟨w.heap.size, 0, none⟩ = some (.int .i64 own) ∧ V.cell? ⟨w.heap.size, 1, none⟩ = some (.int .i64 next) ∧ V.cell? ⟨w.heap.size, 2, none⟩ = some (.slice sa seen.length sc) ∧ V.cell? ⟨w.heap.size, 3, none⟩ = some (.slice la late.length lc)) ?_
      refine takeH 0 (.pointer (some ⟨w.heap.size, 2, none⟩)) rfl (by kernel_rfl) (.inl ⟨rfl, fun w2 ⟨s0, s1, s2, s3⟩ => by go_simp⟩) (HS.out _ HV.out) ?_
      refine takeH 1 (.slice sa seen.length sc) rfl (by kernel_rfl) (.inl ⟨rfl, fun w2 ⟨s0, s1, s2, s3⟩ => by go_simp⟩) (HS.out _ HV.out) ?_
      refine takeH 2 (.int .i64 (seen.length : Int)) rfl (by kernel_rfl) (.inl ⟨rfl, fun w2 ⟨s0, s1, s2, s3⟩ => by go_simp⟩) (HS.out _ HV.out) ?_
      refine takeH 3 (.bool true) rfl (by kernel_rfl) (.inl ⟨rfl, fun w2 ⟨s0, s1, s2, s3⟩ => by go_simp⟩) (HS.out _ HV.out) ?_
      refine takeH 4 (.bool true) rfl (by kernel_rfl) (.inl ⟨rfl, fun w2 ⟨s0, s1, s2, s3⟩ => by go_simp⟩) (HS.out _ HV.out) ?_
      refine takeH 5 (.pointer (some ⟨w.heap.size, 3, none⟩)) rfl (by kernel_rfl) (.inl ⟨by kernel_rfl, fun w2 ⟨s0, s1, s2, s3⟩ => by go_simp⟩) (HS.out _ HV.out) ?_
      refine takeH 6 (.slice la late.length lc) rfl (by kernel_rfl) (.inl ⟨by kernel_rfl, fun w2 ⟨s0, s1, s2, s3⟩ => by go_simp⟩) (HS.out _ HV.out) ?_
      go_simp
      refine onlyH 7 (by kernel_rfl) ?_
      refine wpOp_callG rfl (by kernel_rfl) 9 #[.slice la late.length lc] (by go_simp) CF.out ?_
      rintro e V1 ⟨rfl, hb1⟩
      replace HV := hide hb1
      replace HT2 := hide (HT2.out.below hb1)
      refine ⟨_, rfl, HS.out _ HV.out, ?_⟩
      clear hb1 CF
      go_simp
      refine takeH 8 (.bool true) rfl (by kernel_rfl) (.inl ⟨rfl, fun w2 ⟨s0, s1, s2, s3⟩ => by go_simp⟩) (HS.out _ HV.out) ?_
      refine takeH 9 (.bool true) rfl (by kernel_rfl) (.inl ⟨rfl, fun w2 ⟨s0, s1, s2, s3⟩ => by go_simp⟩) (HS.out _ HV.out) ?_
      refine takeH 10 (.agg #[.int .i64 own, .int .i64 next, .slice sa seen.length sc, .slice la late.length lc]) rfl (by kernel_rfl) (.inl ⟨by kernel_rfl, fun w2 ⟨s0, s1, s2, s3⟩ => by go_simp⟩) (HS.out _ HV.out) ?_
      refine takeH 12 (.agg #[.int .i64 own, .int .i64 next, .slice sa seen.length sc, .slice la late.length lc]) rfl (by kernel_rfl) (.inl ⟨by kernel_rfl, fun w2 ⟨s0, s1, s2, s3⟩ => by go_simp⟩) (HS.out _ HV.out) ?_
      go_simp
      refine onlyH 11 (by kernel_rfl) ?_
      refine wpOp_callG rfl (by kernel_rfl) 10 #[.agg #[.int .i64 own, .int .i64 next, .slice sa seen.length sc, .slice la late.length lc]] (by go_simp) (hc ▸ tokCheck_calls _ ⟨own, next, seen, late⟩ V1 HT2.out (by dsimp only; omega)) ?_
      rintro e V2 ⟨rfl, hb2⟩
      replace HV := hide (HV.out.trans (hb2.mono HV.out.size))
      replace HT2 := hide (HT2.out.below hb2)
      refine ⟨_, rfl, HS.out _ HV.out, ?_⟩
      clear hb2
      go_simp
      refine onlyH 13 (by kernel_rfl) ?_
      refine wpOp_callG rfl (by kernel_rfl) 12 #[.agg #[.int .i64 own, .int .i64 next, .slice sa seen.length sc, .slice la late.length lc]] (by go_simp) (ofTok_calls _ ⟨own, next, seen, late⟩ V2 HT2.out (by dsimp only; omega)) ?_
      rintro e V3 ⟨v3, rfl, htk3, hb3⟩
      replace HV := hide (HV.out.trans (hb3.mono HV.out.size))
      have Htk3 := hide htk3
      refine ⟨_, rfl, HS.out _ HV.out, ?_⟩
      clear hb3 htk3
      go_simp
      refine onlyH 14 (by kernel_rfl) ?_
      refine wpOp_callG rfl (by kernel_rfl) 11 #[v3] (by go_simp) (hc ▸ refCheckToken_calls _ ⟨own, next, seen, late⟩ V3 Htk3.out (by dsimp only; omega)) ?_
      rintro e V4 ⟨rfl, hb4⟩
      replace HV := hide (HV.out.trans (hb4.mono HV.out.size))
      refine ⟨_, rfl, HS.out _ HV.out, ?_⟩
      clear hb4
      go_simp
      refine takeH 15 (.bool false) rfl (by kernel_rfl) (.inl ⟨by kernel_rfl, fun w2 ⟨s0, s1, s2, s3⟩ => by go_simp⟩) (HS.out _ HV.out) ?_
      refine takeH 16 (.bool false) rfl (by kernel_rfl) (.inl ⟨rfl, fun w2 ⟨s0, s1, s2, s3⟩ => by go_simp⟩) (HS.out _ HV.out) ?_
      refine endH (by kernel_rfl) ?_
      go_simp
      go_step
      go_meet
      case rel => exact ⟨rfl, HX2.out.new HV.out⟩
  case rest =>
    obtain ⟨rfl, hxc⟩ := hcut
    replace HX := hide hxc
    clear x0 x1 x2 x3 hxc hxw
    obtain ⟨x0, x1, x2, x3, -⟩ := cells4T HX.out.box
    go_upto_region 5 with fail
    go_wp2_with (go_at_call 13; refine (CG.out _ HX.out.below).mono ?_)
    rintro e w2 ⟨c, rfl, hg, hb2⟩
    replace HX := hide (HX.out.new hb2)
    clear hb2 x0 x1 x2 x3 CG
    cases c with
    | false =>
      go_wp2_with fail
      go_ret
      exact ⟨rfl, HX.out.below⟩
    | true =>
      have Hg := hide (hg rfl)
      clear hg
      have hl40 := fewD_len Hg.out.more
      have ht40 := fewD_len Hg.out.late
      dsimp only at hl40 ht40
      obtain ⟨hwf, hlok, -⟩ := good_wf Hg.out
      have Hwf := hide hwf
      have Hlok := hide hlok
      have Hwf2 := hide (hwf.goesOn l hlok)
      clear Hg hwf hlok
      go_wp2_with fail
      go_loopw [5] (fun i wx => ∃ k : Nat, k ≤ l.length ∧ i = .int .i64 (k : Int) ∧ BoxT w #[.int .i64 own, .int .i64 next, .slice sa seen.length sc, .slice la late.length lc] wx) (fun i _ => l.length - (intOf i).toNat)
      case atStart => exact ⟨0, Nat.zero_le _, rfl, HX.out⟩
      case round =>
        clear HX
        obtain ⟨k, hk, rfl, hbx⟩ := hrel
        have HX := hide hbx
        clear hbx
        obtain ⟨x0, x1, x2, x3, -⟩ := cells4T HX.out.box
        have hxw := HX.out.lt
        by_cases h1 : k < l.length
        · have h1I : (k : Int) < (l.length : Int) := by omega
          obtain ⟨_, _, he, hcap, -, hat⟩ := HL.out.below HX.out.below
          simp only [Value.slice.injEq, true_and] at he
          obtain ⟨rfl, rfl⟩ := he
          obtain ⟨b, o, rfl, da, dc, d0, d1, d2, d3, d4, d5, hdn⟩ := hat k h1
          have hdo := (Hlok.out l[k] (List.getElem_mem h1)).dep
          obtain ⟨⟨ticket, ⟨site, seq, dep, key, val⟩⟩, hx⟩ : ∃ x, l[k] = x := ⟨_, rfl⟩
          rw [hx] at d0 d1 d2 d3 d4 d5 hdn hdo
          dsimp only at d0 d1 d2 d3 d4 d5 hdn hdo
          have hbw := World.block_lt_of_cell? wr _ d0
          have HS0 := hide (show ∀ V : World, RowKit.Below wr.heap.size wr V → V.cell? ⟨w.heap.size, 0, none⟩ = some (.int .i64 own) ∧ V.cell? ⟨w.heap.size, 1, none⟩ = some (.int .i64 next) ∧ V.cell? ⟨w.heap.size, 2, none⟩ = some (.slice sa seen.length sc) ∧ V.cell? ⟨w.heap.size, 3, none⟩ = some (.slice la late.length lc) ∧ V.cell? ⟨b, o + k * 6, none⟩ = some (.int .i64 ticket) ∧ V.cell? ⟨b, o + k * 6 + 1, none⟩ = some (.int .i64 site) ∧ V.cell? ⟨b, o + k * 6 + 2, none⟩ = some (.int .i64 seq) ∧ V.cell? ⟨b, o + k * 6 + 3, none⟩ = some (.slice da dep.length dc) ∧ V.cell? ⟨b, o + k * 6 + 4, none⟩ = some (.string key) ∧ V.cell? ⟨b, o + k * 6 + 5, none⟩ = some (.string val) from fun V hV => ⟨(hV.cell (p := ⟨w.heap.size, 0, none⟩) hxw).trans x0, (hV.cell (p := ⟨w.heap.size, 1, none⟩) hxw).trans x1, (hV.cell (p := ⟨w.heap.size, 2, none⟩) hxw).trans x2, (hV.cell (p := ⟨w.heap.size, 3, none⟩) hxw).trans x3, (hV.cell (p := ⟨b, o + k * 6, none⟩) hbw).trans d0, (hV.cell (p := ⟨b, o + k * 6 + 1, none⟩) hbw).trans d1, (hV.cell (p := ⟨b, o + k * 6 + 2, none⟩) hbw).trans d2, (hV.cell (p := ⟨b, o + k * 6 + 3, none⟩) hbw).trans d3, (hV.cell (p := ⟨b, o + k * 6 + 4, none⟩) hbw).trans d4, (hV.cell (p := ⟨b, o + k * 6 + 5, none⟩) hbw).trans d5⟩)
          have Hdn := hide hdn
          have HTr := hide (HT.out.below HX.out.below)
          obtain ⟨m, hm⟩ : ∃ m, mayD own seen ⟨ticket, ⟨site, seq, dep, key, val⟩⟩ = m := ⟨_, rfl⟩
          go_upto_region 10 with fail
          have hd0 : RowKit.Below wr.heap.size wr wr.drew := (RowKit.Below.refl _ wr).drew
          refine region_begin 15 (by kernel_rfl) rfl ?_
          have HS := hide (fun V (hV : RowKit.Below wr.drew.heap.size wr.drew V) => HS0.out V (hd0.trans hV))
          have HT2 := hide (HTr.out.below hd0)
          have Hdn2 := hide (Hdn.out.below hd0)
          have HX2 := hide (HX.out.new hd0)
          clear d0 d1 d2 d3 d4 d5 hdn hx hat hbw hxw x0 x1 x2 x3 HS0 HTr Hdn HX hd0
          generalize wr.drew = V0 at *
          have HV := hide (RowKit.Below.refl V0.heap.size V0)
          refine heldA (fun V => V.cell? ⟨w.heap.size, 0, none⟩ = some (.int .i64 own) ∧ V.cell? ⟨w.heap.size, 1, none⟩ = some (.int .i64 next) ∧ V.cell? ⟨w.heap.size, 2, none⟩ = some (.slice sa seen.length sc) ∧ V.cell? ⟨w.heap.size, 3, none⟩ = some (.slice la late.length lc) ∧ V.cell? ⟨b, o + k * 6, none⟩ = some (.int .i64 ticket) ∧ V.cell? ⟨b, o + k * 6 + 1, none⟩ = some (.int .i64 site) ∧ V.cell? ⟨b, o + k * 6 + 2, none⟩ = some (.int .i64 seq) ∧ V.cell? ⟨b, o + k * 6 + 3, none⟩ = some (.slice da dep.length dc) ∧ V.cell? ⟨b, o + k * 6 + 4, none⟩ = some (.string key) ∧ V.cell? ⟨b, o + k * 6 + 5, none⟩ = some (.string val)) ?_
          refine takeH 0 (.agg #[.int .i64 own, .int .i64 next, .slice sa seen.length sc, .slice la late.length lc]) rfl (by kernel_rfl) (.inl ⟨rfl, fun w2 ⟨s0, s1, s2, s3, s4, s5, s6, s7, s8, s9⟩ => by go_simp⟩) (HS.out _ HV.out) ?_
          refine takeH 1 (.slice (some ⟨b, o, none⟩) l.length vc) rfl (by kernel_rfl) (.inl ⟨rfl, fun w2 ⟨s0, s1, s2, s3, s4, s5, s6, s7, s8, s9⟩ => by go_simp⟩) (HS.out _ HV.out) ?_
          refine takeH 2 (.int .i64 (k : Int)) rfl (by kernel_rfl) (.inl ⟨rfl, fun w2 ⟨s0, s1, s2, s3, s4, s5, s6, s7, s8, s9⟩ => by go_simp⟩) (HS.out _ HV.out) ?_
          refine takeH 3 (.pointer (some ⟨b, o + k * 6, none⟩)) rfl (by kernel_rfl) (.inl ⟨rfl, fun w2 ⟨s0, s1, s2, s3, s4, s5, s6, s7, s8, s9⟩ => by go_simp⟩) (HS.out _ HV.out) ?_
          refine takeH 4 (.agg #[.int .i64 ticket, .int .i64 site, .int .i64 seq, .slice da dep.length dc, .string key, .string val]) rfl (by kernel_rfl) (.inl ⟨rfl, fun w2 ⟨s0, s1, s2, s3, s4, s5, s6, s7, s8, s9⟩ => by go_simp⟩) (HS.out _ HV.out) ?_
          refine takeH 6 (.agg #[.int .i64 own, .int .i64 next, .slice sa seen.length sc, .slice la late.length lc]) rfl (by kernel_rfl) (.inl ⟨rfl, fun w2 ⟨s0, s1, s2, s3, s4, s5, s6, s7, s8, s9⟩ => by go_simp⟩) (HS.out _ HV.out) ?_
          refine takeH 8 (.slice (some ⟨b, o, none⟩) l.length vc) rfl (by kernel_rfl) (.inl ⟨rfl, fun w2 ⟨s0, s1, s2, s3, s4, s5, s6, s7, s8, s9⟩ => by go_simp⟩) (HS.out _ HV.out) ?_
          refine takeH 9 (.int .i64 (k : Int)) rfl (by kernel_rfl) (.inl ⟨rfl, fun w2 ⟨s0, s1, s2, s3, s4, s5, s6, s7, s8, s9⟩ => by go_simp⟩) (HS.out _ HV.out) ?_
          refine takeH 10 (.pointer (some ⟨b, o + k * 6, none⟩)) rfl (by kernel_rfl) (.inl ⟨rfl, fun w2 ⟨s0, s1, s2, s3, s4, s5, s6, s7, s8, s9⟩ => by go_simp⟩) (HS.out _ HV.out) ?_
          refine takeH 11 (.agg #[.int .i64 ticket, .int .i64 site, .int .i64 seq, .slice da dep.length dc, .string key, .string val]) rfl (by kernel_rfl) (.inl ⟨rfl, fun w2 ⟨s0, s1, s2, s3, s4, s5, s6, s7, s8, s9⟩ => by go_simp⟩) (HS.out _ HV.out) ?_
          go_simp
          refine onlyH 5 (by kernel_rfl) ?_
          refine wpOp_callG rfl (by kernel_rfl) 14 #[.agg #[.int .i64 own, .int .i64 next, .slice sa seen.length sc, .slice la late.length lc], .agg #[.int .i64 ticket, .int .i64 site, .int .i64 seq, .slice da dep.length dc, .string key, .string val]] (by go_simp) (hm ▸ may_calls _ _ ⟨own, next, seen, late⟩ ⟨ticket, ⟨site, seq, dep, key, val⟩⟩ V0 HT2.out ⟨da, dc, rfl, Hdn2.out⟩ Hwf.out.seen (by dsimp only; omega)) ?_
          rintro e V1 ⟨rfl, hb1⟩
          replace HV := hide hb1
          refine ⟨_, rfl, HS.out _ HV.out, ?_⟩
          clear hb1
          go_simp
          refine onlyH 7 (by kernel_rfl) ?_
          refine wpOp_callG rfl (by kernel_rfl) 12 #[.agg #[.int .i64 own, .int .i64 next, .slice sa seen.length sc, .slice la late.length lc]] (by go_simp) (ofTok_calls _ ⟨own, next, seen, late⟩ V1 (HT2.out.below HV.out) (by dsimp only; omega)) ?_
          rintro e V2 ⟨v2, rfl, htk2, hb2⟩
          have Htk2 := hide htk2
          replace HV := hide (HV.out.trans (hb2.mono HV.out.size))
          refine ⟨_, rfl, HS.out _ HV.out, ?_⟩
          clear hb2 htk2
          go_simp
          refine onlyH 12 (by kernel_rfl) ?_
          refine wpOp_callG rfl (by kernel_rfl) 16 #[.agg #[.int .i64 ticket, .int .i64 site, .int .i64 seq, .slice da dep.length dc, .string key, .string val]] (by go_simp) (ofDraft_calls _ ⟨ticket, ⟨site, seq, dep, key, val⟩⟩ V2 ⟨da, dc, rfl, Hdn2.out.below HV.out⟩) ?_
          rintro e V3 ⟨rfl, hb3⟩
          replace Htk2 := hide (Htk2.out.below hb3)
          replace HV := hide (HV.out.trans (hb3.mono HV.out.size))
          refine ⟨_, rfl, HS.out _ HV.out, ?_⟩
          clear hb3
          go_simp
          refine onlyH 13 (by kernel_rfl) ?_
          refine wpOp_callG rfl (by kernel_rfl) 15 #[v2, .agg #[.int .i64 ticket, .int .i64 site, .int .i64 seq, .slice da dep.length dc, .string key, .string val]] (by go_simp) (hm ▸ refMay_calls v2 _ ⟨own, next, seen, late⟩ ⟨ticket, ⟨site, seq, dep, key, val⟩⟩ V3 Htk2.out ⟨da, dc, rfl, Hdn2.out.below HV.out⟩ Hwf.out.seen (by dsimp only; omega)) ?_
          rintro e V4 ⟨rfl, hb4⟩
          replace HV := hide (HV.out.trans (hb4.mono HV.out.size))
          refine ⟨_, rfl, HS.out _ HV.out, ?_⟩
          clear hb4
          go_simp
          refine takeH 14 (.bool false) rfl (by kernel_rfl) (.inl ⟨rfl, fun w2 ⟨s0, s1, s2, s3, s4, s5, s6, s7, s8, s9⟩ => by cases m <;> go_simp⟩) (HS.out _ HV.out) ?_
          refine endH (by kernel_rfl) ?_
          go_simp
          go_step
          go_wp2_with fail
          exact ⟨⟨k + 1, by omega, by go_num, HX2.out.new HV.out⟩, by simp [intOf]; omega⟩
        · have hkL : k = l.length := by omega
          subst hkL
          have CA := hide (admit_wf _ _ ⟨own, next, seen, late⟩ l wr (HT.out.below HX.out.below) (HL.out.below HX.out.below) Hwf.out Hlok.out (by omega) (by decide))
          have hseen8 := Hwf2.out.seen.len
          have hlen2 := Hwf2.out.len
          obtain ⟨al, hR, hR1, -⟩ := admit_right ⟨own, next, seen, late⟩ l
          have hal : ∀ d ∈ al, DrOk d := right_ok hR Hwf.out.seen fun d hd => (List.mem_append.1 hd).elim (Hwf.out.late d) (Hlok.out d)
          have hsl := hR.slots
          obtain ⟨tu, htu⟩ : ∃ x, (admitT ⟨own, next, seen, late⟩ l).1 = x := ⟨_, rfl⟩
          obtain ⟨Lu, hLu⟩ : ∃ x, (admitT ⟨own, next, seen, late⟩ l).2 = x := ⟨_, rfl⟩
          rw [htu] at CA Hwf2 hseen8 hlen2
          rw [hLu] at CA hsl
          have hLa : Lu.length = al.length := by rw [hsl, slotsT_length]
          have Hdl : Hid (∀ d ∈ tu.late, d.r.dep.length ≤ 1099511627776) := hide fun d hd => by have := (Hwf2.out.late d hd).dep; omega
          have Hds : Hid (∀ x ∈ Lu, x.2.r.dep.length ≤ 1099511627776) := hide fun x hx => by
            have h1 : x.2 ∈ Lu.map (·.2) := List.mem_map_of_mem hx
            rw [hsl, slotsT_snd] at h1
            have := (hal _ h1).dep
            omega
          have hL80 : Lu.length ≤ 80 := by dsimp only at hR1; omega
          have hT80 : tu.late.length ≤ 80 := by omega
          obtain ⟨xs, hxs, hxr, hxn⟩ := HLt.out.rd
          obtain ⟨ys, hys, hyr, hyn⟩ := HL.out.rd
          have hxL : xs.length = late.length := by rw [← hxs, List.length_map]
          have hyL : ys.length = l.length := by rw [← hys, List.length_map]
          have COf := hide (fun V (hV : RowKit.Below w.heap.size w V) => show Calls Try.prog 12 #[.agg #[.int .i64 own, .int .i64 next, .slice sa seen.length sc, .slice la late.length lc]] V (fun e w' => ∃ la' lc', e = .returned (.agg #[.int .i64 own, .int .i64 next, .slice sa seen.length sc, .slice la' late.length lc']) ∧ RdD w' (.slice la' late.length lc') xs ∧ RowKit.Below V.heap.size V w') from
            (ofTokR_calls own next seen sa sc la lc late xs w V (hxr.below hV) hxs hxn hV (by omega)).mono fun e w' ⟨la', lc', he, hrow, hb⟩ => ⟨la', lc', hxL ▸ he, hxL ▸ rdD_of_row hrow, hb⟩)
          have COd := hide (fun V (hV : RowKit.Below w.heap.size w V) => ofDrafts_calls (.slice va l.length vc) ys w V (hyr.below hV) hyn hV (by omega))
          have CRA := hide (fun lt vl V (hV : RowKit.Below w.heap.size w V) (h1 : RdD V lt xs) (h2 : RdD V vl ys) => refAdmit_on htu hLu (.slice sa seen.length sc) lt vl xs ys hxs hys w V hV HN.out h1 h2 hxn hyn Hwf.out.seen Hwf.out.late Hlok.out (by omega) ⟨Hwf.out.next.1, by have := Hwf.out.next.2; dsimp only at this; omega⟩)
          clear hR hR1 hal hsl htu hLu hxs hxr hxn hys hyr hyn hLa al hxw hk hxL hyL
          go_upto_region 12 with fail
          go_wp2_with (go_at_call 17; refine CA.out.mono ?_)
          rintro e w2 ⟨vt', vs', rfl, htok, hsls, hb2⟩
          obtain ⟨sau, scu, lau, lcu, rfl, -, -⟩ := htok.tok
          obtain ⟨qau, qcu, rfl⟩ := hsls.sls.form
          clear x0 x1 x2 x3 CA
          have hbx2 := box_below w2 (.cells #[.int .i64 tu.own, .int .i64 tu.next, .slice sau tu.seen.length scu, .slice lau tu.late.length lcu] 26)
          have hu := World.alloc_heap_new w2 (.cells #[.int .i64 tu.own, .int .i64 tu.next, .slice sau tu.seen.length scu, .slice lau tu.late.length lcu] 26)
          have HX2 := hide ((HX.out.new hb2).new hbx2)
          have Htku := hide (htok.tok.below hbx2)
          have Hslu := hide (hsls.sls.below hbx2)
          have Hu := hide hu
          clear htok hsls hb2 hbx2 hu HX
          obtain ⟨x0, x1, x2, x3, -⟩ := cells4T HX2.out.box
          go_upto_region 13 with fail
          generalize w2.alloc (.cells #[.int .i64 tu.own, .int .i64 tu.next, .slice sau tu.seen.length scu, .slice lau tu.late.length lcu] 26) = W5 at *
          generalize w2.heap.size = ub at *
          go_wp2_with (go_at_call 12; refine (COf.out _ HX2.out.below).mono ?_)
          rintro e w6 ⟨la', lc', rfl, hrow6, hb6⟩
          replace HX2 := hide (HX2.out.new hb6)
          replace Htku := hide (Htku.out.below hb6)
          replace Hslu := hide (Hslu.out.below hb6)
          replace Hu := hide (keepB Hu.out hb6)
          have HR6 := hide hrow6
          clear hrow6 hb6 x0 x1 x2 x3 COf
          go_wp2_with (go_at_call 19; refine (COd.out _ HX2.out.below).mono ?_)
          rintro e w7 ⟨v7, rfl, hrow7, hb7⟩
          replace HX2 := hide (HX2.out.new hb7)
          replace Htku := hide (Htku.out.below hb7)
          replace Hslu := hide (Hslu.out.below hb7)
          replace Hu := hide (keepB Hu.out hb7)
          replace HR6 := hide (HR6.out.below hb7)
          have HR7 := hide (rdD_of_row hrow7)
          clear hrow7 hb7 COd
          go_wp2_with (go_at_call 18; refine (CRA.out _ _ _ HX2.out.below HR6.out HR7.out).mono ?_)
          rintro e w8 ⟨vt8, vs8, rfl, htk8, hsl8, hb8⟩
          obtain ⟨sav, scv, lav, lcv, rfl, -, -⟩ := id htk8
          obtain ⟨qav, qcv, rfl⟩ := hsl8.form
          have hbx9 := box_below w8 (.cells #[.int .i64 tu.own, .int .i64 tu.next, .slice sav tu.seen.length scv, .slice lav tu.late.length lcv] 34)
          have hv := World.alloc_heap_new w8 (.cells #[.int .i64 tu.own, .int .i64 tu.next, .slice sav tu.seen.length scv, .slice lav tu.late.length lcv] 34)
          replace HX2 := hide ((HX2.out.new hb8).new hbx9)
          replace Htku := hide ((Htku.out.below hb8).below hbx9)
          replace Hslu := hide ((Hslu.out.below hb8).below hbx9)
          have hu := keepB (keepB Hu.out hb8) hbx9
          have Htkv := hide (htk8.below hbx9)
          have Hslv := hide (hsl8.below hbx9)
          have Hv := hide hv
          replace Hu := hide hu
          clear hbx9 hb8 htk8 hsl8 hu hv CRA HR6 HR7
          go_upto_region 14 with fail
          generalize w8.alloc (.cells #[.int .i64 tu.own, .int .i64 tu.next, .slice sav tu.seen.length scv, .slice lav tu.late.length lcv] 34) = W9 at *
          generalize w8.heap.size = vb at *
          obtain ⟨y0, y1, y2, y3, -⟩ := cells4T Hu.out
          obtain ⟨z0, z1, z2, z3, -⟩ := cells4T Hv.out
          have hubw : ub < W9.heap.size := World.block_lt_of_cell? W9 _ y0
          have hvbw : vb < W9.heap.size := World.block_lt_of_cell? W9 _ z0
          have HS0 := hide (show ∀ V : World, RowKit.Below W9.heap.size W9 V → V.cell? ⟨ub, 0, none⟩ = some (.int .i64 tu.own) ∧ V.cell? ⟨ub, 1, none⟩ = some (.int .i64 tu.next) ∧ V.cell? ⟨ub, 2, none⟩ = some (.slice sau tu.seen.length scu) ∧ V.cell? ⟨ub, 3, none⟩ = some (.slice lau tu.late.length lcu) ∧ V.cell? ⟨vb, 0, none⟩ = some (.int .i64 tu.own) ∧ V.cell? ⟨vb, 1, none⟩ = some (.int .i64 tu.next) ∧ V.cell? ⟨vb, 2, none⟩ = some (.slice sav tu.seen.length scv) ∧ V.cell? ⟨vb, 3, none⟩ = some (.slice lav tu.late.length lcv) from fun V hV => ⟨(hV.cell (p := ⟨ub, 0, none⟩) hubw).trans y0, (hV.cell (p := ⟨ub, 1, none⟩) hubw).trans y1, (hV.cell (p := ⟨ub, 2, none⟩) hubw).trans y2, (hV.cell (p := ⟨ub, 3, none⟩) hubw).trans y3, (hV.cell (p := ⟨vb, 0, none⟩) hvbw).trans z0, (hV.cell (p := ⟨vb, 1, none⟩) hvbw).trans z1, (hV.cell (p := ⟨vb, 2, none⟩) hvbw).trans z2, (hV.cell (p := ⟨vb, 3, none⟩) hvbw).trans z3⟩)
          have hd0 : RowKit.Below W9.heap.size W9 W9.drew := (RowKit.Below.refl _ W9).drew
          refine region_begin 10 (by kernel_rfl) rfl ?_
          have HS := hide (fun V (hV : RowKit.Below W9.drew.heap.size W9.drew V) => HS0.out V (hd0.trans hV))
          replace HX2 := hide (HX2.out.new hd0)
          replace Htku := hide (Htku.out.below hd0)
          replace Hslu := hide (Hslu.out.below hd0)
          replace Htkv := hide (Htkv.out.below hd0)
          replace Hslv := hide (Hslv.out.below hd0)
          clear y0 y1 y2 y3 z0 z1 z2 z3 HS0 hd0 Hu Hv hubw hvbw
          generalize W9.drew = V0 at *
          have HV := hide (RowKit.Below.refl V0.heap.size V0)
          refine heldA (fun V => V.cell? ⟨ub, 0, none⟩ = some (.int .i64 tu.own) ∧ V.cell? ⟨ub, 1, none⟩ = some (.int .i64 tu.next) ∧ V.cell? ⟨ub, 2, none⟩ = some (.slice sau tu.seen.length scu) ∧ V.cell? ⟨ub, 3, none⟩ = some (.slice lau tu.late.length lcu) ∧ V.cell? ⟨vb, 0, none⟩ = some (.int .i64 tu.own) ∧ V.cell? ⟨vb, 1, none⟩ = some (.int .i64 tu.next) ∧ V.cell? ⟨vb, 2, none⟩ = some (.slice sav tu.seen.length scv) ∧ V.cell? ⟨vb, 3, none⟩ = some (.slice lav tu.late.length lcv)) ?_
          refine takeH 0 (.agg #[.int .i64 tu.own, .int .i64 tu.next, .slice sau tu.seen.length scu, .slice lau tu.late.length lcu]) rfl (by kernel_rfl) (.inl ⟨rfl, fun w2 ⟨s0, s1, s2, s3, s4, s5, s6, s7⟩ => by go_simp⟩) (HS.out _ HV.out) ?_
          refine takeH 2 (.agg #[.int .i64 tu.own, .int .i64 tu.next, .slice sav tu.seen.length scv, .slice lav tu.late.length lcv]) rfl (by kernel_rfl) (.inl ⟨rfl, fun w2 ⟨s0, s1, s2, s3, s4, s5, s6, s7⟩ => by go_simp⟩) (HS.out _ HV.out) ?_
          go_simp
          refine onlyH 1 (by kernel_rfl) ?_
          refine wpOp_callG rfl (by kernel_rfl) 12 #[.agg #[.int .i64 tu.own, .int .i64 tu.next, .slice sau tu.seen.length scu, .slice lau tu.late.length lcu]] (by go_simp) (ofTok_calls _ tu V0 Htku.out (by omega)) ?_
          rintro e V1 ⟨v1, rfl, htk1, hb1⟩
          have Htk1 := hide htk1
          replace HV := hide hb1
          refine ⟨_, rfl, HS.out _ HV.out, ?_⟩
          clear htk1 hb1
          go_simp
          refine onlyH 3 (by kernel_rfl) ?_
          refine wpOp_callG rfl (by kernel_rfl) 20 #[v1, .agg #[.int .i64 tu.own, .int .i64 tu.next, .slice sav tu.seen.length scv, .slice lav tu.late.length lcv]] (by go_simp) (sameTok_calls _ _ tu V1 Htk1.out (Htkv.out.below HV.out) Hdl.out (by omega) (by omega)) ?_
          rintro e V2 ⟨rfl, hb2⟩
          replace HV := hide (HV.out.trans (hb2.mono HV.out.size))
          refine ⟨_, rfl, HS.out _ HV.out, ?_⟩
          clear hb2
          go_simp
          refine takeH 4 (.bool true) rfl (by kernel_rfl) (.inl ⟨rfl, fun w2 ⟨s0, s1, s2, s3, s4, s5, s6, s7⟩ => by go_simp⟩) (HS.out _ HV.out) ?_
          refine takeH 5 (.slice qau Lu.length qcu) rfl (by kernel_rfl) (.inl ⟨by kernel_rfl, fun w2 ⟨s0, s1, s2, s3, s4, s5, s6, s7⟩ => by go_simp⟩) (HS.out _ HV.out) ?_
          refine takeH 6 (.slice qav Lu.length qcv) rfl (by kernel_rfl) (.inl ⟨by kernel_rfl, fun w2 ⟨s0, s1, s2, s3, s4, s5, s6, s7⟩ => by go_simp⟩) (HS.out _ HV.out) ?_
          go_simp
          refine onlyH 7 (by kernel_rfl) ?_
          refine wpOp_callG rfl (by kernel_rfl) 21 #[.slice qau Lu.length qcu, .slice qav Lu.length qcv] (by go_simp) (sameSlots_calls _ _ Lu V2 (Hslu.out.below HV.out) (Hslv.out.below HV.out) Hds.out (by omega)) ?_
          rintro e V3 ⟨rfl, hb3⟩
          replace HV := hide (HV.out.trans (hb3.mono HV.out.size))
          refine ⟨_, rfl, HS.out _ HV.out, ?_⟩
          clear hb3
          go_simp
          refine takeH 8 (.bool true) rfl (by kernel_rfl) (.inl ⟨rfl, fun w2 ⟨s0, s1, s2, s3, s4, s5, s6, s7⟩ => by go_simp⟩) (HS.out _ HV.out) ?_
          go_simp
          refine onlyH 9 (by kernel_rfl) ?_
          refine wpOp_val rfl rfl (v := .bool true) (w' := V3) (by go_simp) ?_
          refine ⟨HS.out _ HV.out, ?_⟩
          refine endH (by kernel_rfl) ?_
          go_simp
          go_step
          go_wp2_with fail
          go_ret
          exact ⟨rfl, (HX2.out.new HV.out).below⟩

end Go.Proofs.Ytdkpbfigjdmfpaa
