/- Own work: the parts TK21 of the proof, laid together. -/
import Derived.Test.YtdkpbfigjdmfpaaPartTokenRight5
import Derived.Test.YtdkpbfigjdmfpaaPartTokenRight6
/- The law TokenRight of layer 9. Own work; no statement. -/
set_option linter.unusedSimpArgs false
set_option linter.unusedVariables false
namespace Go.Proofs.Ytdkpbfigjdmfpaa
open Go.RowKit Go.Shelf Go.Sort




set_option maxHeartbeats 8000000 in
set_option maxRecDepth 100000 in
theorem tokRight_calls (vt vl : Value) (t : TokD) (l : List DrD) (w : World) (ht : IsTok w vt t) (hl : IsDrs w vl l) :
    Calls Try.prog 4 #[vt, vl] w fun e w' => e = .returned (.bool true) ∧ RowKit.Below w.heap.size w w' := by
  obtain ⟨i0, hi0, hz0, hz1, hz2⟩ := info_parts Try.info41
  obtain ⟨own, next, seen, late⟩ := t
  obtain ⟨sa, sc, la, lc, rfl, hn, hlate⟩ := ht
  dsimp only at *
  obtain ⟨va, vc, rfl⟩ := hl.form
  obtain ⟨W0, hW0, hsz, hB0, h0⟩ := new1T w #[.int .i64 own, .int .i64 next, .slice sa seen.length sc, .slice la late.length lc] 26
  have HX := hide (BoxT.mk hB0 h0)
  have CG := hide (fun V (hV : RowKit.Below w.heap.size w V) => good_calls (.agg #[.int .i64 own, .int .i64 next, .slice sa seen.length sc, .slice la late.length lc]) (.slice va l.length vc) ⟨own, next, seen, late⟩ l V ⟨_, _, _, _, rfl, hn.below hV, hlate.below hV⟩ (hl.below hV))
  have HW := hide hW0
  have HT := hide (show IsTok w (.agg #[.int .i64 own, .int .i64 next, .slice sa seen.length sc, .slice la late.length lc]) ⟨own, next, seen, late⟩ from ⟨_, _, _, _, rfl, hn, hlate⟩)
  have HL := hide hl
  obtain ⟨xs, hxs, hxr, hxn⟩ := hlate.rd
  obtain ⟨ys, hys, hyr, hyn⟩ := hl.rd
  have hxL : xs.length = late.length := by rw [← hxs, List.length_map]
  have hyL : ys.length = l.length := by rw [← hys, List.length_map]
  have Hxr := hide hxr
  have Hyr := hide hyr
  have Hxn := hide hxn
  have Hyn := hide hyn
  have Hxs := hide hxs
  have Hys := hide hys
  have HxL := hide hxL
  have HyL := hide hyL
  clear hW0 hB0 h0 hsz hn hlate hl hxr hyr hxn hyn hxs hys hxL hyL
  go_enter Try.func4, Try.ntmps4
  go_upto_region 1 with fail
  rw [HW.out]
  clear HW
  go_wp2_with fail
  refine (tokKnown_calls W0).mono ?_
  rintro e w1 ⟨rfl, b1⟩
  replace HX := hide (HX.out.new b1)
  obtain ⟨x0, x1, x2, x3, -⟩ := cells4T HX.out.box
  clear b1
  go_wp2_with (go_at_call 13; refine (CG.out _ HX.out.below).mono ?_)
  rintro e w2 ⟨c, rfl, hg, hb2⟩
  replace HX := hide (HX.out.new hb2)
  clear hb2 x0 x1 x2 x3 CG
  cases c with
  | false =>
    go_wp2_with fail
    go_ret
    exact ⟨rfl, HX.out.below⟩
  | true =>
    have Hg := hide (hg rfl)
    clear hg
    have hl40 := fewD_len Hg.out.more
    have ht40 := fewD_len Hg.out.late
    dsimp only at hl40 ht40
    obtain ⟨hwf, hlok, hoth⟩ := good_wf Hg.out
    have CA := hide (admit_wf _ _ ⟨own, next, seen, late⟩ l w2 (HT.out.below HX.out.below) (HL.out.below HX.out.below) hwf hlok (by omega) (by decide))
    have hwf2 := hwf.goesOn l hlok
    have Hwf := hide hwf
    have Hlok := hide hlok
    have Hwf2 := hide hwf2
    have hseen8 := hwf2.seen.len
    clear hwf hlok hwf2 Hg Hxr Hyr Hxn Hyn Hxs Hys HxL HyL
    obtain ⟨al, hR, hR1, hR2⟩ := admit_right ⟨own, next, seen, late⟩ l
    have HR := hide hR
    have Hag := hide (admit_again ⟨own, next, seen, late⟩ l)
    have Hst : Hid (∀ d ∈ al, DrOk d) := hide (right_ok hR Hwf.out.seen fun d hd => (List.mem_append.1 hd).elim (Hwf.out.late d) (Hlok.out d))
    clear hR hoth
    have htl80 := Hwf2.out.len
    generalize htu : (admitT ⟨own, next, seen, late⟩ l).1 = tu at *
    generalize hLu : (admitT ⟨own, next, seen, late⟩ l).2 = Lu at *
    have hsl := HR.out.slots
    have hse := HR.out.seen
    have hnx := HR.out.next
    have how := HR.out.own
    have hno := HR.out.not
    rw [htu] at hse hnx how hno
    rw [hLu] at hsl
    have Hsl := hide hsl
    have Hse := hide hse
    have Hnx := hide hnx
    have How := hide how
    have Hno := hide hno
    clear htu hLu hsl hse hnx how hno
    obtain ⟨x0, x1, x2, x3, -⟩ := cells4T HX.out.box
    go_upto_region 5 with fail
    go_wp2_with (go_at_call 17; refine CA.out.mono ?_)
    rintro e w2 ⟨vt', vs', rfl, htok, hsls, hb2⟩
    obtain ⟨sau, scu, lau, lcu, rfl, hnu, -⟩ := htok.tok
    obtain ⟨qau, qcu, rfl⟩ := hsls.sls.form
    clear x0 x1 x2 x3 CA
    have hbx2 := box_below w2 (.cells #[.int .i64 tu.own, .int .i64 tu.next, .slice sau tu.seen.length scu, .slice lau tu.late.length lcu] 26)
    have hu := World.alloc_heap_new w2 (.cells #[.int .i64 tu.own, .int .i64 tu.next, .slice sau tu.seen.length scu, .slice lau tu.late.length lcu] 26)
    have HX2 := hide ((HX.out.new hb2).new hbx2)
    have Hnu := hide (hnu.below hbx2)
    have Hsls := hide (hsls.new hbx2)
    have Htok := hide (htok.new hbx2)
    clear hsls htok
    have Hu := hide hu
    clear hb2 hbx2 hu hnu HX
    go_upto_region 6 with fail
    generalize w2.alloc (.cells #[.int .i64 tu.own, .int .i64 tu.next, .slice sau tu.seen.length scu, .slice lau tu.late.length lcu] 26) = W5 at *
    generalize w2.heap.size = ub at *
    have hub := ltB Hu.out
    have hwub := HX2.out.lt
    have hs1 := Hwf.out.seen.len
    dsimp only at hs1
    obtain ⟨j0, hj, hj0, hj1, hj2⟩ := info_parts Try.info3
    go_cut [7] (fun s7 wx => IsNums .i64 wx s7 seen ∧ RowKit.Below W5.heap.size W5 wx)
    case first =>
      obtain ⟨_, _, _, _, he, hN, -⟩ := HT.out
      simp only [Value.agg.injEq, Array.mk.injEq, List.cons.injEq, and_true, true_and, Value.slice.injEq] at he
      obtain ⟨⟨rfl, rfl⟩, -⟩ := he
      have hN5 := hN.below HX2.out.below
      obtain ⟨x0, x1, x2, x3, -⟩ := cells4T HX2.out.box
      have hrow0 : (W5.alloc (.cells #[] 3)).ownsRow W5.heap.size 3 1 (.slice (some ⟨W5.heap.size, 0, none⟩) 0 0) 0 [] := World.ownsRow_lit W5 #[] 0 (Nat.le_refl _) (by unfold maxLen; omega) rfl
      clear HT HX2 Hse Hnx How Hno Hsl Hsls Htok Hu Hnu Hwf Hlok HR Hag HL
      rcases hN5.cases with ⟨e, a1, cap, h2⟩ | ⟨b, o, capa, h2, -, hcap, hb, hcell⟩
      · subst e
        simp only [Value.slice.injEq] at h2
        obtain ⟨rfl, -, rfl⟩ := h2
        clear hrow0 hN hN5
        simp only [List.length_nil]
        cases sa with
        | none =>
          go_wp2_with fail
          go_meet
          case rel => exact ⟨IsNums.nil _ _ _ _, alloc_below W5 _⟩
        | some a2 =>
          obtain ⟨b2, o2, sp⟩ := a2
          go_wp2_with fail
          go_meet
          case rel => exact ⟨IsNums.nil _ _ _ _, alloc_below W5 _⟩
      · simp only [Value.slice.injEq, true_and] at h2
        obtain ⟨rfl, rfl⟩ := h2
        have hnews : ∀ j u, (seen.map (Value.int .i64))[j]? = some u → (W5.alloc (.cells #[] 3)).cell? ((⟨b, o, none⟩ : Addr).add j) = some u := by
          intro j u hu
          rw [List.getElem?_map] at hu
          by_cases hj : j < seen.length
          · rw [List.getElem?_eq_getElem hj, Option.map_some] at hu
            cases hu
            rw [Lib.add_plain]
            rw [World.cell?_alloc_past _ _ _ hb, hcell j hj, getD_in seen j hj]
          · rw [List.getElem?_eq_none (by omega)] at hu
            simp at hu
        clear hcell hN hN5
        go_wp2_with (at_builtin; refine wpList_append_own2 _ rfl _ _ 22 23 rfl W5.heap.size 3 j0 (.int .i64 0) 1 8 Try.underlying22 Try.underlying23 hj hj0 hj1 hj2 rfl (by decide) _ _ _ rfl hrow0 ⟨b, o, none⟩ seen.length sc (seen.map (Value.int .i64)) rfl (by simp) hnews (by intro u hu; simp at hu; obtain ⟨x, -, rfl⟩ := hu; rfl) (by unfold maxLen; omega) (by omega) (by simp) ?_; intro v1 w9 hown1 hgrow1; rw [Nat.zero_add, List.nil_append] at hown1; have hB1 : RowKit.Below W5.heap.size W5 w9 := (alloc_below W5 _).grown hgrow1 (by simp) (fun j hj => (hrow0.lt j hj).1); clear hgrow1)
        go_meet
        case rel => exact ⟨IsNums.of_row hown1, hB1⟩
    case rest =>
      obtain ⟨hv, hbc⟩ := hcut
      have hLa : Lu.length = al.length := by rw [Hsl.out, slotsT_length]
      have HLa := hide hLa
      have Hv := hide hv
      have Hbc := hide hbc
      clear hv hbc hLa
      go_wp2_with fail
      go_loopw [7, 8] (fun v i wr => ∃ k : Nat, k ≤ Lu.length ∧ i = .int .i64 (k : Int) ∧ IsNums .i64 wr v (endT seen (al.take k)) ∧ RowKit.Below W5.heap.size W5 wr) (fun _ i _ => Lu.length - (intOf i).toNat)
      case atStart => exact ⟨0, Nat.zero_le _, rfl, Hv.out, Hbc.out⟩
      case round =>
        clear Hv Hbc
        obtain ⟨k, hk, rfl, hn, hb⟩ := hrel
        obtain ⟨va', vc', rfl⟩ := hn.form
        have hel : (endT seen (al.take k)).length ≤ 1048576 := by
          have := endT_length (al.take k) seen fun d hd => (Hst.out d (List.mem_of_mem_take hd)).site.2
          omega
        by_cases h1 : k < Lu.length
        · have h1I : (k : Int) < (Lu.length : Int) := by omega
          have h1a : k < al.length := by have := HLa.out; omega
          obtain ⟨a1, c1, he, hat⟩ := (Hsls.out.new hb).sls
          simp only [Value.slice.injEq, true_and] at he
          obtain ⟨rfl, rfl⟩ := he
          obtain ⟨b, o, rfl, p0, da, dc, p1, p2, p3, p4, p5, p6, hdn⟩ := hat k h1
          obtain ⟨hq1, hq2⟩ := chainT_at seen al HR.out.chain k h1a
          have htk := endT_take seen al k h1a
          have hLk : Lu[k] = (next + (k : Int), al[k]) := by
            have h := slotsT_get next al k (by rw [slotsT_length]; exact h1a)
            have e : ∀ (M : List (Int × DrD)) (hM : k < M.length), M = slotsT next al → M[k] = (next + (k : Int), al[k]) := fun M hM e => by subst e; exact h
            exact e Lu h1 Hsl.out
          rw [hLk] at p0 p1 p2 p3 p4 p5 p6 hdn
          have hst := Hst.out al[k] (List.getElem_mem h1a)
          obtain ⟨⟨ticket, ⟨site, seq, dep, key, val⟩⟩, hx⟩ : ∃ x, al[k] = x := ⟨_, rfl⟩
          rw [hx] at p0 p1 p2 p3 p4 p5 p6 hdn hq1 hq2 htk hst
          dsimp only at p0 p1 p2 p3 p4 p5 p6 hdn hq1 hq2 htk
          have hr1 := hst.site
          have hr2 := hst.seq
          have hr3 := hst.dep
          dsimp only at hr1 hr2 hr3
          have HTK := hide htk
          have HQ2 := hide hq2
          have Hn := hide hn
          have HB := hide hb
          have Hel := hide hel
          have Hdn := hide hdn
          clear hx hLk hst htk hq2 hat hn hb hel hdn
          obtain ⟨g, hg⟩ : ∃ g, geti (endT seen (al.take k)) site = g := ⟨_, rfl⟩
          rw [hg] at hq1
          subst hq1
          have hk80 : k ≤ 80 := by have := HLa.out; omega
          have hnext0 : 0 ≤ next ∧ next ≤ 1073741824 := Hwf.out.next
          have hbr := box_below wr (.cells #[.int .i64 site, .int .i64 (g + 1), .slice da dep.length dc, .string key, .string val] 39)
          have hnr := World.alloc_heap_new wr (.cells #[.int .i64 site, .int .i64 (g + 1), .slice da dep.length dc, .string key, .string val] 39)
          go_upto_region 11 with fail
          have HX6 := hide ((HX2.out.new HB.out).new hbr)
          have hp0 := (hbr.cell (p := ⟨b, o + k * 7, none⟩) (World.block_lt_of_cell? wr _ p0)).trans p0
          have Hn6 := hide (Hn.out.below hbr)
          have Hdn6 := hide (Hdn.out.below hbr)
          have HB6 := hide (HB.out.trans (hbr.mono HB.out.size))
          obtain ⟨r0, r1, r2, r3, r4⟩ := cells5T hnr
          clear p0 p1 p2 p3 p4 p5 p6 hbr hnr Hn Hdn HB
          generalize wr.alloc (.cells #[.int .i64 site, .int .i64 (g + 1), .slice da dep.length dc, .string key, .string val] 39) = W6 at *
          generalize wr.heap.size = rb at *
          have CG := hide (fun nq => hg ▸ refGet_calls _ (endT seen (al.take k)) site (W6.drewN nq) (Hn6.out.below (drewsB W6 nq)) (by have := Hel.out; omega))
          have CC := hide (fun nq => HQ2.out ▸ refCovers_calls _ _ (endT seen (al.take k)) dep (W6.drewN nq) (Hn6.out.below (drewsB W6 nq)) (Hdn6.out.below (drewsB W6 nq)) (by have := Hel.out; omega) (by omega))
          obtain ⟨x0, x1, x2, x3, -⟩ := cells4T HX6.out.box
          go_quiet (first | (go_at_call 22; refine Calls.quiet_of_same (CG.out _)) | (go_at_call 23; refine Calls.quiet_of_same (CC.out _)))
          have hrb : rb < W6.heap.size := World.block_lt_of_cell? W6 _ r0
          have hd7 := drewsB W6 nq
          replace r0 := (hd7.cell (p := ⟨rb, 0, none⟩) hrb).trans r0
          replace r1 := (hd7.cell (p := ⟨rb, 1, none⟩) hrb).trans r1
          have HB7 := hide (HB6.out.trans (hd7.mono HB6.out.size))
          have Hn7 := hide (Hn6.out.below hd7)
          clear x0 x1 x2 x3 r2 r3 r4 hp0 CG CC HX6 Hn6 Hdn6 HB6 hd7 hrb
          generalize W6.drewN nq = W7 at *
          have CW := hide (refWith_calls _ (endT seen (al.take k)) site (g + 1) W7 Hn7.out (by have := Hel.out; omega))
          go_wp2_with (go_at_call 24; refine CW.out.mono ?_; rintro e W8 ⟨v8, rfl, hn8, hb8⟩)
          rw [← HTK.out] at hn8
          exact ⟨⟨k + 1, by omega, by go_num, hn8, HB7.out.trans (hb8.mono HB7.out.size)⟩, by simp [intOf]; omega⟩
        · have hkL : k = Lu.length := by omega
          subst hkL
          have htk := List.take_of_length_le (l := al) (i := Lu.length) (Nat.le_of_eq HLa.out.symm)
          rw [htk, ← Hse.out] at hn hel ⊢
          clear htk
          have hAL : Lu.length = al.length := HLa.out
          have hL80 : (Lu.length : Int) ≤ 80 := by omega
          have hnext0 : 0 ≤ next := Hwf.out.next.1
          have hnext1 : next ≤ 1073741824 := Hwf.out.next.2
          have HX7 := hide (HX2.out.new hb)
          have hu7 := (hb.block ub hub).trans Hu.out
          have CS := hide (refSame_calls _ _ tu.seen tu.seen wr hn (Hnu.out.below hb) (by omega) (by omega))
          rw [(same_iff tu.seen tu.seen).2 fun i => rfl] at CS
          obtain ⟨x0, x1, x2, x3, -⟩ := cells4T HX7.out.box
          obtain ⟨y0, y1, y2, y3, -⟩ := cells4T hu7
          rw [Hnx.out, ← hAL] at y1
          rw [How.out] at y0
          have HX7b := hide HX7.out.below
          have HTk := hide (Htok.out.new hb).tok
          have Hu7 := hide hu7
          have hubr : ub < wr.heap.size := ltB hu7
          clear hb hn hu7 HX7 hAL HX2 Hu Htok Hnu Hsls Hsl HLa HR HT HL Hst Hse Hnx
          go_upto_region 14 with fail
          clear h1 hk
          go_upto_region 16 with (go_at_call 25; refine CS.mono ?_; rintro e w9 ⟨rfl, rfl⟩)
          clear CS x0 x1 x2 x3 y0 y1 y2 y3 hel
          go_wp2_with fail
          go_loopw [10] (fun i wx => ∃ k : Nat, k ≤ tu.late.length ∧ i = .int .i64 (k : Int) ∧ RowKit.Below w9.heap.size w9 wx) (fun i _ => tu.late.length - (intOf i).toNat)
          case atStart => exact ⟨0, Nat.zero_le _, rfl, RowKit.Below.refl _ _⟩
          case round =>
            obtain ⟨k, hk, rfl, hb⟩ := hrel
            have hur := (hb.block ub hubr).trans Hu7.out
            have HTr := hide (HTk.out.below hb)
            have HB := hide hb
            clear hb
            obtain ⟨y0, y1, y2, y3, -⟩ := cells4T hur
            by_cases h1 : k < tu.late.length
            · have h1I : (k : Int) < (tu.late.length : Int) := by omega
              obtain ⟨_, _, _, _, he, -, hld⟩ := HTr.out
              simp only [Value.agg.injEq, Array.mk.injEq, List.cons.injEq, and_true, true_and, Value.slice.injEq] at he
              obtain ⟨-, rfl, rfl⟩ := he
              obtain ⟨_, _, he, hcap, -, hat⟩ := hld
              simp only [Value.slice.injEq, true_and] at he
              obtain ⟨rfl, rfl⟩ := he
              obtain ⟨b, o, rfl, da, dc, d0, d1, d2, d3, d4, d5, hdn⟩ := hat k h1
              have hm := Hno.out tu.late[k] (List.getElem_mem h1)
              rw [← How.out] at hm
              have hdo := (Hwf2.out.late tu.late[k] (List.getElem_mem h1)).dep
              obtain ⟨⟨ticket, ⟨site, seq, dep, key, val⟩⟩, hx⟩ : ∃ x, tu.late[k] = x := ⟨_, rfl⟩
              rw [hx] at d0 d1 d2 d3 d4 d5 hdn hm hdo
              dsimp only at d0 d1 d2 d3 d4 d5 hdn hdo
              have hbw := World.block_lt_of_cell? wr _ d0
              have huw := ltB hur
              have HS0 := hide (show ∀ V : World, RowKit.Below wr.heap.size wr V → V.cell? ⟨ub, 0, none⟩ = some (.int .i64 tu.own) ∧ V.cell? ⟨ub, 1, none⟩ = some (.int .i64 tu.next) ∧ V.cell? ⟨ub, 2, none⟩ = some (.slice sau tu.seen.length scu) ∧ V.cell? ⟨ub, 3, none⟩ = some (.slice (some ⟨b, o, none⟩) tu.late.length lcu) ∧ V.cell? ⟨b, o + k * 6, none⟩ = some (.int .i64 ticket) ∧ V.cell? ⟨b, o + k * 6 + 1, none⟩ = some (.int .i64 site) ∧ V.cell? ⟨b, o + k * 6 + 2, none⟩ = some (.int .i64 seq) ∧ V.cell? ⟨b, o + k * 6 + 3, none⟩ = some (.slice da dep.length dc) ∧ V.cell? ⟨b, o + k * 6 + 4, none⟩ = some (.string key) ∧ V.cell? ⟨b, o + k * 6 + 5, none⟩ = some (.string val) from fun V hV => ⟨(hV.cell (p := ⟨ub, 0, none⟩) huw).trans y0, (hV.cell (p := ⟨ub, 1, none⟩) huw).trans y1, (hV.cell (p := ⟨ub, 2, none⟩) huw).trans y2, (hV.cell (p := ⟨ub, 3, none⟩) huw).trans y3, (hV.cell (p := ⟨b, o + k * 6, none⟩) hbw).trans d0, (hV.cell (p := ⟨b, o + k * 6 + 1, none⟩) hbw).trans d1, (hV.cell (p := ⟨b, o + k * 6 + 2, none⟩) hbw).trans d2, (hV.cell (p := ⟨b, o + k * 6 + 3, none⟩) hbw).trans d3, (hV.cell (p := ⟨b, o + k * 6 + 4, none⟩) hbw).trans d4, (hV.cell (p := ⟨b, o + k * 6 + 5, none⟩) hbw).trans d5⟩)
              have Hdn := hide hdn
              have Hm := hide hm
              go_upto_region 19 with fail
              have hd0 : RowKit.Below wr.heap.size wr wr.drew := (RowKit.Below.refl _ wr).drew
              refine region_begin 9 (by kernel_rfl) rfl ?_
              have HS := hide (fun V (hV : RowKit.Below wr.drew.heap.size wr.drew V) => HS0.out V (hd0.trans hV))
              have HT2 := hide (HTr.out.below hd0)
              have Hdn2 := hide (Hdn.out.below hd0)
              have HB2 := hide (HB.out.trans (hd0.mono HB.out.size))
              clear d0 d1 d2 d3 d4 d5 hdn hm hx hat hur hbw huw y0 y1 y2 y3 HS0 HTr Hdn HB
              generalize wr.drew = V0 at *
              have HV := hide (RowKit.Below.refl V0.heap.size V0)
              refine heldA (fun V => V.cell? ⟨ub, 0, none⟩ = some (.int .i64 tu.own) ∧ V.cell? ⟨ub, 1, none⟩ = some (.int .i64 tu.next) ∧ V.cell? ⟨ub, 2, none⟩ = some (.slice sau tu.seen.length scu) ∧ V.cell? ⟨ub, 3, none⟩ = some (.slice (some ⟨b, o, none⟩) tu.late.length lcu) ∧ V.cell? ⟨b, o + k * 6, none⟩ = some (.int .i64 ticket) ∧ V.cell? ⟨b, o + k * 6 + 1, none⟩ = some (.int .i64 site) ∧ V.cell? ⟨b, o + k * 6 + 2, none⟩ = some (.int .i64 seq) ∧ V.cell? ⟨b, o + k * 6 + 3, none⟩ = some (.slice da dep.length dc) ∧ V.cell? ⟨b, o + k * 6 + 4, none⟩ = some (.string key) ∧ V.cell? ⟨b, o + k * 6 + 5, none⟩ = some (.string val)) ?_
              refine takeH 0 (.agg #[.int .i64 tu.own, .int .i64 tu.next, .slice sau tu.seen.length scu, .slice (some ⟨b, o, none⟩) tu.late.length lcu]) rfl (by kernel_rfl) (.inl ⟨rfl, fun w2 ⟨s0, s1, s2, s3, s4, s5, s6, s7, s8, s9⟩ => by go_simp⟩) (HS.out _ HV.out) ?_
              refine takeH 2 (.pointer (some ⟨ub, 3, none⟩)) rfl (by kernel_rfl) (.inl ⟨rfl, fun w2 ⟨s0, s1, s2, s3, s4, s5, s6, s7, s8, s9⟩ => by go_simp⟩) (HS.out _ HV.out) ?_
              refine takeH 3 (.slice (some ⟨b, o, none⟩) tu.late.length lcu) rfl (by kernel_rfl) (.inl ⟨rfl, fun w2 ⟨s0, s1, s2, s3, s4, s5, s6, s7, s8, s9⟩ => by go_simp⟩) (HS.out _ HV.out) ?_
              refine takeH 4 (.int .i64 (k : Int)) rfl (by kernel_rfl) (.inl ⟨rfl, fun w2 ⟨s0, s1, s2, s3, s4, s5, s6, s7, s8, s9⟩ => by go_simp⟩) (HS.out _ HV.out) ?_
              refine takeH 5 (.pointer (some ⟨b, o + k * 6, none⟩)) rfl (by kernel_rfl) (.inl ⟨rfl, fun w2 ⟨s0, s1, s2, s3, s4, s5, s6, s7, s8, s9⟩ => by go_simp⟩) (HS.out _ HV.out) ?_
              refine takeH 6 (.agg #[.int .i64 ticket, .int .i64 site, .int .i64 seq, .slice da dep.length dc, .string key, .string val]) rfl (by kernel_rfl) (.inl ⟨rfl, fun w2 ⟨s0, s1, s2, s3, s4, s5, s6, s7, s8, s9⟩ => by go_simp⟩) (HS.out _ HV.out) ?_
              refine onlyH 1 (by kernel_rfl) ?_
              refine wpOp_call rfl rfl 12 #[.agg #[.int .i64 tu.own, .int .i64 tu.next, .slice sau tu.seen.length scu, .slice (some ⟨b, o, none⟩) tu.late.length lcu]] (by go_simp) (ofTok_calls _ tu V0 HT2.out (by omega)) ?_
              rintro e V1 ⟨v1, rfl, htk1, hb1⟩
              have Htk1 := hide htk1
              replace HV := hide hb1
              clear htk1
              refine ⟨_, rfl, HS.out _ HV.out, ?_⟩
              refine onlyH 7 (by kernel_rfl) ?_
              refine wpOp_call rfl rfl 16 #[.agg #[.int .i64 ticket, .int .i64 site, .int .i64 seq, .slice da dep.length dc, .string key, .string val]] (by go_simp) (ofDraft_calls _ ⟨ticket, ⟨site, seq, dep, key, val⟩⟩ V1 ⟨da, dc, rfl, Hdn2.out.below HV.out⟩) ?_
              rintro e V2 ⟨rfl, hb2⟩
              replace Htk1 := hide (Htk1.out.below hb2)
              replace HV := hide (HV.out.trans (hb2.mono HV.out.size))
              refine ⟨_, rfl, HS.out _ HV.out, ?_⟩
              refine onlyH 8 (by kernel_rfl) ?_
              refine wpOp_call rfl rfl 15 #[v1, .agg #[.int .i64 ticket, .int .i64 site, .int .i64 seq, .slice da dep.length dc, .string key, .string val]] (by go_simp) (refMay_calls v1 _ tu ⟨ticket, ⟨site, seq, dep, key, val⟩⟩ V2 Htk1.out ⟨da, dc, rfl, Hdn2.out.below HV.out⟩ Hwf2.out.seen (by dsimp only; omega)) ?_
              rintro e V3 ⟨rfl, hb3⟩
              rw [Hm.out]
              replace HV := hide (HV.out.trans (hb3.mono HV.out.size))
              refine ⟨_, rfl, HS.out _ HV.out, ?_⟩
              refine endH (by kernel_rfl) ?_
              go_simp
              go_step
              go_wp2_with fail
              exact ⟨⟨k + 1, by omega, by go_num, HB2.out.trans (HV.out.mono HB2.out.size)⟩, by simp [intOf]; omega⟩
            · have hkL : k = tu.late.length := by omega
              subst hkL
              have CA2 := hide (admit_wf _ _ tu [] wr HTr.out (IsDrs.nil _) Hwf2.out (fun d hd => by cases hd) (by simp; omega) (by omega))
              rw [Hag.out] at CA2
              have HB9 := hide (HX7b.out.trans (HB.out.mono HX7b.out.size))
              clear h1 HB
              go_upto_region 21 with fail
              go_wp2_with (go_at_call 17; refine CA2.out.mono ?_)
              intro e w3 vt3 vs3 he htok hsls hb3
              subst he
              obtain ⟨sau3, scu3, lau3, lcu3, rfl, -, -⟩ := htok.tok
              obtain ⟨qau3, qcu3, rfl⟩ := hsls.sls.form
              have hbx4 := box_below w3 (.cells #[.int .i64 tu.own, .int .i64 tu.next, .slice sau3 tu.seen.length scu3, .slice lau3 tu.late.length lcu3] 26)
              have hv := World.alloc_heap_new w3 (.cells #[.int .i64 tu.own, .int .i64 tu.next, .slice sau3 tu.seen.length scu3, .slice lau3 tu.late.length lcu3] 26)
              have Htk3 := hide (htok.new hbx4).tok
              have Htk4 := hide ((HTr.out.below hb3).below hbx4)
              have hur4 := keepB (keepB hur hb3) hbx4
              have HB10 := hide (HB9.out.trans ((hb3.trans (hbx4.mono hb3.size)).mono HB9.out.size))
              have hlt4 := ltB hur
              clear CA2 htok hsls hb3 hbx4 y0 y1 y2 y3 hur HTr HB9
              go_upto_region 22 with fail
              generalize w3.alloc (.cells #[.int .i64 tu.own, .int .i64 tu.next, .slice sau3 tu.seen.length scu3, .slice lau3 tu.late.length lcu3] 26) = W4 at *
              generalize w3.heap.size = wb at *
              obtain ⟨y0, y1, y2, y3, -⟩ := cells4T hur4
              obtain ⟨z0, z1, z2, z3, -⟩ := cells4T hv
              have hll : tu.late.length ≤ 1048576 := by omega
              have COf3 := hide (ofTok_calls _ tu W4 Htk3.out hll)
              have COf4 := hide (fun V (hV : RowKit.Below W4.heap.size W4 V) => ofTok_calls _ tu V (Htk4.out.below hV) hll)
              have Hdl : Hid (∀ d ∈ tu.late, d.r.dep.length ≤ 1099511627776) := hide fun d hd => by have := (Hwf2.out.late d hd).dep; omega
              have Hur4 := hide hur4
              clear hur4 hv
              have hwbw : wb < W4.heap.size := World.block_lt_of_cell? W4 _ z0
              have hubw : ub < W4.heap.size := World.block_lt_of_cell? W4 _ y0
              have HS0 := hide (show ∀ V : World, RowKit.Below W4.heap.size W4 V → V.cell? ⟨ub, 0, none⟩ = some (.int .i64 tu.own) ∧ V.cell? ⟨ub, 1, none⟩ = some (.int .i64 tu.next) ∧ V.cell? ⟨ub, 2, none⟩ = some (.slice sau tu.seen.length scu) ∧ V.cell? ⟨ub, 3, none⟩ = some (.slice lau tu.late.length lcu) ∧ V.cell? ⟨wb, 0, none⟩ = some (.int .i64 tu.own) ∧ V.cell? ⟨wb, 1, none⟩ = some (.int .i64 tu.next) ∧ V.cell? ⟨wb, 2, none⟩ = some (.slice sau3 tu.seen.length scu3) ∧ V.cell? ⟨wb, 3, none⟩ = some (.slice lau3 tu.late.length lcu3) from fun V hV => ⟨(hV.cell (p := ⟨ub, 0, none⟩) hubw).trans y0, (hV.cell (p := ⟨ub, 1, none⟩) hubw).trans y1, (hV.cell (p := ⟨ub, 2, none⟩) hubw).trans y2, (hV.cell (p := ⟨ub, 3, none⟩) hubw).trans y3, (hV.cell (p := ⟨wb, 0, none⟩) hwbw).trans z0, (hV.cell (p := ⟨wb, 1, none⟩) hwbw).trans z1, (hV.cell (p := ⟨wb, 2, none⟩) hwbw).trans z2, (hV.cell (p := ⟨wb, 3, none⟩) hwbw).trans z3⟩)
              have hd0 : RowKit.Below W4.heap.size W4 W4.drew := (RowKit.Below.refl _ W4).drew
              refine region_begin 11 (by kernel_rfl) rfl ?_
              have HS := hide (fun V (hV : RowKit.Below W4.drew.heap.size W4.drew V) => HS0.out V (hd0.trans hV))
              have Htk3b := hide (Htk3.out.below hd0)
              have Htk4b := hide (Htk4.out.below hd0)
              have HB11 := hide (HB10.out.trans (hd0.mono HB10.out.size))
              clear y0 y1 y2 y3 z0 z1 z2 z3 HS0 COf3 COf4 Htk3 Htk4 hd0 HB10 Hur4 hwbw hubw
              generalize W4.drew = V0 at *
              have HV := hide (RowKit.Below.refl V0.heap.size V0)
              refine heldA (fun V => V.cell? ⟨ub, 0, none⟩ = some (.int .i64 tu.own) ∧ V.cell? ⟨ub, 1, none⟩ = some (.int .i64 tu.next) ∧ V.cell? ⟨ub, 2, none⟩ = some (.slice sau tu.seen.length scu) ∧ V.cell? ⟨ub, 3, none⟩ = some (.slice lau tu.late.length lcu) ∧ V.cell? ⟨wb, 0, none⟩ = some (.int .i64 tu.own) ∧ V.cell? ⟨wb, 1, none⟩ = some (.int .i64 tu.next) ∧ V.cell? ⟨wb, 2, none⟩ = some (.slice sau3 tu.seen.length scu3) ∧ V.cell? ⟨wb, 3, none⟩ = some (.slice lau3 tu.late.length lcu3)) ?_
              refine takeH 0 (.slice qau3 0 qcu3) rfl (by kernel_rfl) (.inl ⟨rfl, fun w2 ⟨s0, s1, s2, s3, s4, s5, s6, s7⟩ => by go_simp⟩) (HS.out _ HV.out) ?_
              refine takeH 1 (.int .i64 0) rfl (by kernel_rfl) (.inl ⟨rfl, fun w2 ⟨s0, s1, s2, s3, s4, s5, s6, s7⟩ => by go_simp⟩) (HS.out _ HV.out) ?_
              refine takeH 2 (.bool true) rfl (by kernel_rfl) (.inl ⟨rfl, fun w2 ⟨s0, s1, s2, s3, s4, s5, s6, s7⟩ => by go_simp⟩) (HS.out _ HV.out) ?_
              refine takeH 3 (.bool true) rfl (by kernel_rfl) (.inl ⟨rfl, fun w2 ⟨s0, s1, s2, s3, s4, s5, s6, s7⟩ => by go_simp⟩) (HS.out _ HV.out) ?_
              refine takeH 4 (.agg #[.int .i64 tu.own, .int .i64 tu.next, .slice sau3 tu.seen.length scu3, .slice lau3 tu.late.length lcu3]) rfl (by kernel_rfl) (.inl ⟨by kernel_rfl, fun w2 ⟨s0, s1, s2, s3, s4, s5, s6, s7⟩ => by go_simp⟩) (HS.out _ HV.out) ?_
              refine takeH 6 (.agg #[.int .i64 tu.own, .int .i64 tu.next, .slice sau tu.seen.length scu, .slice lau tu.late.length lcu]) rfl (by kernel_rfl) (.inl ⟨by kernel_rfl, fun w2 ⟨s0, s1, s2, s3, s4, s5, s6, s7⟩ => by go_simp⟩) (HS.out _ HV.out) ?_
              go_simp
              refine onlyH 5 (by kernel_rfl) ?_
              refine wpOp_callG rfl (by kernel_rfl) 12 #[.agg #[.int .i64 tu.own, .int .i64 tu.next, .slice sau3 tu.seen.length scu3, .slice lau3 tu.late.length lcu3]] (by go_simp) (ofTok_calls _ tu V0 Htk3b.out hll) ?_
              rintro e V1 ⟨v1, rfl, htk1, hb1⟩
              have Htk1 := hide htk1
              replace HV := hide hb1
              clear htk1
              refine ⟨_, rfl, HS.out _ HV.out, ?_⟩
              go_simp
              refine onlyH 7 (by kernel_rfl) ?_
              refine wpOp_callG rfl (by kernel_rfl) 12 #[.agg #[.int .i64 tu.own, .int .i64 tu.next, .slice sau tu.seen.length scu, .slice lau tu.late.length lcu]] (by go_simp) (ofTok_calls _ tu V1 (Htk4b.out.below HV.out) hll) ?_
              rintro e V2 ⟨v2, rfl, htk2, hb2⟩
              have Htk2 := hide htk2
              replace Htk1 := hide (Htk1.out.below hb2)
              replace HV := hide (HV.out.trans (hb2.mono HV.out.size))
              clear htk2
              refine ⟨_, rfl, HS.out _ HV.out, ?_⟩
              go_simp
              refine onlyH 8 (by kernel_rfl) ?_
              refine wpOp_callG rfl (by kernel_rfl) 20 #[v1, v2] (by go_simp) (sameTok_calls _ _ tu V2 Htk1.out Htk2.out Hdl.out hll (by omega)) ?_
              rintro e V3 ⟨rfl, hb3⟩
              replace HV := hide (HV.out.trans (hb3.mono HV.out.size))
              refine ⟨_, rfl, HS.out _ HV.out, ?_⟩
              go_simp
              refine takeH 9 (.bool true) rfl (by kernel_rfl) (.inl ⟨rfl, fun w2 ⟨s0, s1, s2, s3, s4, s5, s6, s7⟩ => by go_simp⟩) (HS.out _ HV.out) ?_
              go_simp
              refine onlyH 10 (by kernel_rfl) ?_
              refine wpOp_val rfl rfl (v := .bool true) (w' := V3) (by go_simp) ?_
              refine ⟨HS.out _ HV.out, ?_⟩
              refine endH (by kernel_rfl) ?_
              go_simp
              go_step
              go_wp2_with fail
              go_ret
              exact ⟨rfl, HB11.out.trans (HV.out.mono HB11.out.size)⟩

end Go.Proofs.Ytdkpbfigjdmfpaa
