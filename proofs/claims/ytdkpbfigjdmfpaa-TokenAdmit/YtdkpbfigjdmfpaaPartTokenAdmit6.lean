/- Own work: the parts TK20, TKb, TK27 of the proof, laid together. -/
import Derived.Test.YtdkpbfigjdmfpaaPartTokenAdmit1
import Derived.Test.YtdkpbfigjdmfpaaPartTokenAdmit5
import Derived.Test.YtdkpbfigjdmfpaaPartTokenChain9
import Derived.Test.YtdkpbfigjdmfpaaPartTokenChain3
/- The laws' SameDrafts and Same of layer 9, on what is the same. Own work; no statement. -/
set_option linter.unusedSimpArgs false
set_option linter.unusedVariables false
namespace Go.Proofs.Ytdkpbfigjdmfpaa
open Go.RowKit Go.Shelf Go.Sort

theorem sameR_refl (r : RecD) : sameR r r = true := by
  unfold sameR
  simp [(same_iff r.dep r.dep).2 fun i => rfl]

set_option maxHeartbeats 8000000 in
set_option maxRecDepth 100000 in
theorem sameDrafts_calls (va vb : Value) (l : List DrD) (w : World) (ha : IsDrs w va l) (hb : IsDrs w vb l) (hd : ∀ d ∈ l, d.r.dep.length ≤ 1099511627776) (hll : l.length ≤ 1048576) :
    Calls Try.prog 41 #[va, vb] w fun e w' => e = .returned (.bool true) ∧ RowKit.Below w.heap.size w w' := by
  obtain ⟨xs, hxs, hxr, hxn⟩ := ha.rd
  obtain ⟨ys, hys, hyr, hyn⟩ := hb.rd
  have hxL : xs.length = l.length := by rw [← hxs, List.length_map]
  have hyL : ys.length = l.length := by rw [← hys, List.length_map]
  obtain ⟨a, cap, rfl, -, -, hat⟩ := hxr
  obtain ⟨a', cap', rfl, -, -, hat'⟩ := hyr
  rw [hxL, hyL]
  have Hat := hide hat
  have Hat' := hide hat'
  have Hxn := hide hxn
  have Hyn := hide hyn
  have Hxs := hide hxs
  have Hys := hide hys
  have Hd := hide hd
  have HxL := hide hxL
  have HyL := hide hyL
  clear hat hat' hxn hyn hxs hys hd ha hb hxL hyL
  go_enter Try.func41, Try.ntmps41
  go_wp2_with fail
  go_loopw [5] (fun i wr => ∃ k : Nat, k ≤ l.length ∧ i = .int .i64 (k : Int) ∧ RowKit.Below w.heap.size w wr) (fun i _ => l.length - (intOf i).toNat)
  case atStart => exact ⟨0, Nat.zero_le _, rfl, RowKit.Below.refl _ _⟩
  case round =>
    obtain ⟨k, hk, rfl, hbw⟩ := hrel
    have Hb := hide hbw
    clear hbw
    by_cases h1 : k < l.length
    · have h1I : (k : Int) < (l.length : Int) := by omega
      have hx1 : k < xs.length := by have := HxL.out; omega
      have hy1 : k < ys.length := by have := HyL.out; omega
      obtain ⟨b, o, rfl, hc⟩ := Hat.out k hx1
      obtain ⟨b', o', rfl, hc'⟩ := Hat'.out k hy1
      have hnx := Hxn.out xs[k] (List.getElem_mem hx1)
      have hny := Hyn.out ys[k] (List.getElem_mem hy1)
      have hex : xs[k].d = l[k] := by
        have h := congrArg (fun z => z[k]?) Hxs.out
        simpa [List.getElem?_map, List.getElem?_eq_getElem hx1, List.getElem?_eq_getElem h1] using h
      have hey : ys[k].d = l[k] := by
        have h := congrArg (fun z => z[k]?) Hys.out
        simpa [List.getElem?_map, List.getElem?_eq_getElem hy1, List.getElem?_eq_getElem h1] using h
      have hdk := Hd.out l[k] (List.getElem_mem h1)
      obtain ⟨⟨dx, vd⟩, hx⟩ : ∃ x, xs[k] = x := ⟨_, rfl⟩
      obtain ⟨⟨dy, vd'⟩, hy⟩ : ∃ x, ys[k] = x := ⟨_, rfl⟩
      rw [hx] at hc hnx hex
      rw [hy] at hc' hny hey
      dsimp only at hex hey hnx hny
      rw [← hex] at hey hdk
      subst hey
      obtain ⟨ticket, ⟨site, seq, dep, key, val⟩⟩ := dy
      dsimp only at hnx hny hdk
      obtain ⟨da, dc, rfl⟩ := hnx.form
      obtain ⟨da', dc', rfl⟩ := hny.form
      have hblt : b < w.heap.size := by
        have := hc 0 (by omega)
        exact World.block_lt_of_cell? w _ (this.trans (by simp [Dv.cells]; rfl))
      have hblt' : b' < w.heap.size := by
        have := hc' 0 (by omega)
        exact World.block_lt_of_cell? w _ (this.trans (by simp [Dv.cells]; rfl))
      have cc : ∀ j, j < 6 → wr.cell? ⟨b, o + k * 6 + j, none⟩ = _ := fun j hj => (Hb.out.cell (p := ⟨b, o + k * 6 + j, none⟩) hblt).trans (hc j hj)
      have cc' : ∀ j, j < 6 → wr.cell? ⟨b', o' + k * 6 + j, none⟩ = _ := fun j hj => (Hb.out.cell (p := ⟨b', o' + k * 6 + j, none⟩) hblt').trans (hc' j hj)
      have c0 := cc 0 (by omega)
      have c1 := cc 1 (by omega)
      have c2 := cc 2 (by omega)
      have c3 := cc 3 (by omega)
      have c4 := cc 4 (by omega)
      have c5 := cc 5 (by omega)
      have g0 := cc' 0 (by omega)
      have g1 := cc' 1 (by omega)
      have g2 := cc' 2 (by omega)
      have g3 := cc' 3 (by omega)
      have g4 := cc' 4 (by omega)
      have g5 := cc' 5 (by omega)
      simp only [Dv.cells, List.getElem?_cons_zero, List.getElem?_cons_succ, Nat.add_zero] at c0 c1 c2 c3 c4 c5 g0 g1 g2 g3 g4 g5
      have Hnx := hide hnx
      have Hny := hide hny
      clear hx hy hc hc' cc cc' hnx hny hblt hblt' hex
      go_upto_region 6 with fail
      refine region_begin 25 (by kernel_rfl) (by kernel_rfl) ?_
      have HBd := hide Hb.out.drew
      replace c0 : wr.drew.cell? _ = _ := c0
      replace c1 : wr.drew.cell? _ = _ := c1
      replace c2 : wr.drew.cell? _ = _ := c2
      replace c3 : wr.drew.cell? _ = _ := c3
      replace c4 : wr.drew.cell? _ = _ := c4
      replace c5 : wr.drew.cell? _ = _ := c5
      replace g0 : wr.drew.cell? _ = _ := g0
      replace g1 : wr.drew.cell? _ = _ := g1
      replace g2 : wr.drew.cell? _ = _ := g2
      replace g3 : wr.drew.cell? _ = _ := g3
      replace g4 : wr.drew.cell? _ = _ := g4
      replace g5 : wr.drew.cell? _ = _ := g5
      generalize wr.drew = V0 at *
      have HGw := hide (fun d os => HBd.out.trans ((below_regrown V0 d os).mono HBd.out.size))
      have hsr : sameR ⟨site, seq, dep, key, val⟩ ⟨site, seq, dep, key, val⟩ = true := sameR_refl _
      have QS := hide (fun d os => Calls.regrown_of (hsr ▸ sameRec9_calls (.agg #[.int .i64 site, .int .i64 seq, .slice da dep.length dc, .string key, .string val]) (.agg #[.int .i64 site, .int .i64 seq, .slice da' dep.length dc', .string key, .string val]) ⟨site, seq, dep, key, val⟩ ⟨site, seq, dep, key, val⟩ (Go.Sort.grow (redrawn V0 d) os) ⟨da, dc, rfl, Hnx.out.below (HGw.out d os)⟩ ⟨da', dc', rfl, Hny.out.below (HGw.out d os)⟩ hdk hdk))
      clear hsr
      replace c0 := cell_regrown c0
      replace c1 := cell_regrown c1
      replace c2 := cell_regrown c2
      replace c3 := cell_regrown c3
      replace c4 := cell_regrown c4
      replace c5 := cell_regrown c5
      replace g0 := cell_regrown g0
      replace g1 := cell_regrown g1
      replace g2 := cell_regrown g2
      replace g3 := cell_regrown g3
      replace g4 := cell_regrown g4
      replace g5 := cell_regrown g5
      refine quietFromB 0 (by kernel_rfl) (by kernel_rfl) ?_
      simp only [List.drop_zero]
      first | go_big_quiet_step (fail) | quiet_step (fail)
      first | go_big_quiet_step (fail) | quiet_step (fail)
      first | go_big_quiet_step (fail) | quiet_step (fail)
      first | go_big_quiet_step (fail) | quiet_step (fail)
      first | go_big_quiet_step (fail) | quiet_step (fail)
      first | go_big_quiet_step (fail) | quiet_step (fail)
      first | go_big_quiet_step (fail) | quiet_step (fail)
      first | go_big_quiet_step (fail) | quiet_step (fail)
      first | go_big_quiet_step (fail) | quiet_step (fail)
      first | go_big_quiet_step (fail) | quiet_step (fail)
      first | go_big_quiet_step (fail) | quiet_step (fail)
      first | go_big_quiet_step (fail) | quiet_step (fail)
      first | go_big_quiet_step (fail) | quiet_step (fail)
      first | go_big_quiet_step (fail) | quiet_step (fail)
      first | go_big_quiet_step (fail) | quiet_step (fail)
      first | go_big_quiet_step (fail) | quiet_step (fail)
      first | go_big_quiet_step (fail) | quiet_step (fail)
      first | go_big_quiet_step (fail) | quiet_step (fail)
      first | go_big_quiet_step (fail) | quiet_step (fail)
      first | go_big_quiet_step (fail) | quiet_step (fail)
      first | go_big_quiet_step (fail) | quiet_step (fail)
      first | go_big_quiet_step (fail) | quiet_step (fail)
      first | go_big_quiet_step (exact QS.out _ _) | quiet_step (exact QS.out _ _)
      first | go_big_quiet_step (fail) | quiet_step (fail)
      first | go_big_quiet_step (fail) | quiet_step (fail)
      refine wpQuiet_nil ?_
      intro _ hw'
      obtain ⟨⟨dq, osq⟩, hw''⟩ := hw'
      subst hw''
      clear c0 c1 c2 c3 c4 c5 g0 g1 g2 g3 g4 g5 QS
      go_simp
      try simp only [noPanic]
      go_step
      go_wp2_with fail
      exact ⟨⟨k + 1, by omega, by go_num, HGw.out dq osq⟩, by simp [intOf]; omega⟩
    · have h1I : ¬ (k : Int) < (l.length : Int) := by omega
      go_wp2_with fail
      go_ret
      exact ⟨rfl, Hb.out⟩

set_option maxHeartbeats 4000000 in
theorem sameTok_calls (va vb : Value) (t : TokD) (w : World) (ha : IsTok w va t) (hb : IsTok w vb t) (hd : ∀ d ∈ t.late, d.r.dep.length ≤ 1099511627776) (hll : t.late.length ≤ 1048576) (hs : t.seen.length ≤ 1099511627776) :
    Calls Try.prog 20 #[va, vb] w fun e w' => e = .returned (.bool true) ∧ RowKit.Below w.heap.size w w' := by
  obtain ⟨own, next, seen, late⟩ := t
  obtain ⟨sa, sc, la, lc, rfl, hn, hl⟩ := ha
  obtain ⟨sa', sc', la', lc', rfl, hn', hl'⟩ := hb
  dsimp only at *
  obtain ⟨W0, hW0, hsz, hB0, h0, h1⟩ := new2T w #[.int .i64 own, .int .i64 next, .slice sa seen.length sc, .slice la late.length lc] #[.int .i64 own, .int .i64 next, .slice sa' seen.length sc', .slice la' late.length lc'] 34 34
  have CS := hide (refSame_calls _ _ seen seen W0 (hn.below hB0) (hn'.below hB0) hs hs)
  rw [(same_iff seen seen).2 fun i => rfl] at CS
  have CD := hide (sameDrafts_calls _ _ late W0 (hl.below hB0) (hl'.below hB0) hd hll)
  obtain ⟨x0, x1, x2, x3, -⟩ := cells4T h0
  obtain ⟨y0, y1, y2, y3, -⟩ := cells4T h1
  have HW := hide hW0
  have HB := hide hB0
  clear hW0 hB0 h0 h1 hsz hn hl hn' hl'
  go_enter Try.func20, Try.ntmps20
  go_upto_region 1 with fail
  rw [HW.out]
  go_wp2_with (first | (go_at_call 25; refine CS.out.mono ?_; rintro e w2 ⟨rfl, rfl⟩) | (go_at_call 41; refine CD.out.mono ?_; rintro e w2 ⟨rfl, hb2⟩; have HB2 := hide (HB.out.trans (hb2.mono HB.out.size)); clear hb2))
  go_ret
  exact ⟨rfl, HB2.out⟩

end Go.Proofs.Ytdkpbfigjdmfpaa

/- Of which sites what was put is; how long what is seen gets. Own work; no statement. -/
set_option linter.unusedSimpArgs false
set_option linter.unusedVariables false
namespace Go.Proofs.Ytdkpbfigjdmfpaa
open Go.RowKit

theorem slotsT_snd : ∀ (p : Int) (l : List DrD), (slotsT p l).map (·.2) = l
  | _, [] => rfl
  | p, d :: l => by
    simp only [slotsT, List.map_cons]
    rw [slotsT_snd (p + 1) l]
theorem putT_site (own : Int) (s : List Int) (d : DrD) : (putT own s d).r.site = d.r.site := by
  unfold putT
  split <;> rfl
theorem admT_sites {own : Int} : ∀ (n : Nat) (s : List Int) (l : List DrD), ∀ d ∈ (admT own n s l).2.2, ∃ x ∈ l, d.r.site = x.r.site
  | 0, s, l, d, hd => by cases hd
  | n + 1, s, l, d, hd => by
    unfold admT at hd
    cases hf : l.find? (mayD own s) with
    | none => rw [hf] at hd; cases hd
    | some x =>
      rw [hf] at hd
      obtain ⟨hx, -⟩ := find_out hf
      rcases List.mem_cons.1 hd with e | hd
      · exact ⟨x, hx, by rw [e, putT_site]⟩
      · obtain ⟨y, hy, e⟩ := admT_sites n _ _ d hd
        exact ⟨y, outT_mem hf y hy, e⟩
theorem right_sites {t : TokD} {m al : List DrD} (h : RightT t m al) : ∀ d ∈ al, ∃ x ∈ t.late ++ m, d.r.site = x.r.site := by
  have e : al = (admT t.own (t.late ++ m).length t.seen (t.late ++ m)).2.2 := by
    have h1 := congrArg (List.map (fun x : Int × DrD => x.2)) h.slots
    rw [slotsT_snd] at h1
    rw [← h1]
    exact slotsT_snd _ _
  rw [e]
  exact admT_sites _ _ _
theorem adm_drOk {own : Int} : ∀ (n : Nat) (s : List Int) (l : List DrD), SeenOk s → (∀ d ∈ l, DrOk d) → ∀ d ∈ (admT own n s l).2.2, DrOk d
  | 0, s, l, _, _, d, hd => by cases hd
  | n + 1, s, l, hs, hl, d, hd => by
    unfold admT at hd
    cases hf : l.find? (mayD own s) with
    | none => rw [hf] at hd; cases hd
    | some x =>
      rw [hf] at hd
      obtain ⟨hx, hm, -⟩ := find_out hf
      rcases List.mem_cons.1 hd with e | hd
      · rw [e]
        exact DrOk.put hs (hl x hx) hm
      · exact adm_drOk n _ _ (hs.put (hl x hx) hm) (fun y hy => hl y (outT_mem hf y hy)) d hd
theorem right_ok {t : TokD} {m al : List DrD} (h : RightT t m al) (hs : SeenOk t.seen) (hl : ∀ d ∈ t.late ++ m, DrOk d) : ∀ d ∈ al, DrOk d := by
  have e : al = (admT t.own (t.late ++ m).length t.seen (t.late ++ m)).2.2 := by
    have h1 := congrArg (List.map (fun x : Int × DrD => x.2)) h.slots
    rw [slotsT_snd] at h1
    rw [← h1]
    exact slotsT_snd _ _
  rw [e]
  exact adm_drOk _ _ _ hs hl
theorem endT_length : ∀ (l : List DrD) (s : List Int), (∀ d ∈ l, d.r.site ≤ 7) → (endT s l).length ≤ max s.length 8
  | [], s, _ => by
    show s.length ≤ _
    omega
  | d :: l, s, h => by
    have h1 := endT_length l (withL s d.r.site d.r.seq) fun x hx => h x (List.mem_cons_of_mem _ hx)
    have h2 := withL_length s d.r.site d.r.seq (h d List.mem_cons_self)
    show (endT (withL s d.r.site d.r.seq) l).length ≤ _
    omega

end Go.Proofs.Ytdkpbfigjdmfpaa

/- The laws' SameSlots of layer 9, on what is the same. Own work; no statement. -/
set_option linter.unusedSimpArgs false
set_option linter.unusedVariables false
namespace Go.Proofs.Ytdkpbfigjdmfpaa
open Go.RowKit Go.Shelf Go.Sort

set_option maxHeartbeats 8000000 in
set_option maxRecDepth 100000 in
theorem sameSlots_calls (va vb : Value) (l : List (Int × DrD)) (w : World) (ha : IsSls w va l) (hb : IsSls w vb l) (hd : ∀ x ∈ l, x.2.r.dep.length ≤ 1099511627776) (hll : l.length ≤ 1048576) :
    Calls Try.prog 21 #[va, vb] w fun e w' => e = .returned (.bool true) ∧ RowKit.Below w.heap.size w w' := by
  obtain ⟨a, cap, rfl, hat⟩ := id ha
  obtain ⟨a', cap', rfl, hat'⟩ := id hb
  have Ha := hide ha
  have Hb' := hide hb
  have Hd := hide hd
  clear hat hat' hd ha hb
  go_enter Try.func21, Try.ntmps21
  go_wp2_with fail
  go_loopw [5] (fun i wr => ∃ k : Nat, k ≤ l.length ∧ i = .int .i64 (k : Int) ∧ RowKit.Below w.heap.size w wr) (fun i _ => l.length - (intOf i).toNat)
  case atStart => exact ⟨0, Nat.zero_le _, rfl, RowKit.Below.refl _ _⟩
  case round =>
    obtain ⟨k, hk, rfl, hbw⟩ := hrel
    have Hb := hide hbw
    clear hbw
    by_cases h1 : k < l.length
    · have h1I : (k : Int) < (l.length : Int) := by omega
      obtain ⟨_, _, he, hat⟩ := Ha.out.below Hb.out
      simp only [Value.slice.injEq, true_and] at he
      obtain ⟨rfl, rfl⟩ := he
      obtain ⟨_, _, he, hat'⟩ := Hb'.out.below Hb.out
      simp only [Value.slice.injEq, true_and] at he
      obtain ⟨rfl, rfl⟩ := he
      obtain ⟨b, o, rfl, c6, da, dc, c0, c1, c2, c3, c4, c5, hnx⟩ := hat k h1
      obtain ⟨b', o', rfl, g6, da', dc', g0, g1, g2, g3, g4, g5, hny⟩ := hat' k h1
      have hdk := Hd.out l[k] (List.getElem_mem h1)
      obtain ⟨⟨pos, ⟨ticket, ⟨site, seq, dep, key, val⟩⟩⟩, hx⟩ : ∃ x, l[k] = x := ⟨_, rfl⟩
      rw [hx] at c0 c1 c2 c3 c4 c5 c6 g0 g1 g2 g3 g4 g5 g6 hnx hny hdk
      dsimp only at c0 c1 c2 c3 c4 c5 c6 g0 g1 g2 g3 g4 g5 g6 hnx hny hdk
      have Hnx := hide hnx
      have Hny := hide hny
      have Hz := hide (RowKit.Below.refl wr.heap.size wr)
      clear hx hat hat' hnx hny
      go_upto_region 6 with fail
      refine region_begin 43 (by kernel_rfl) (by kernel_rfl) ?_
      have HBd := hide Hz.out.drew
      have HBw := hide Hb.out.drew
      replace c0 : wr.drew.cell? _ = _ := c0
      replace c1 : wr.drew.cell? _ = _ := c1
      replace c2 : wr.drew.cell? _ = _ := c2
      replace c3 : wr.drew.cell? _ = _ := c3
      replace c4 : wr.drew.cell? _ = _ := c4
      replace c5 : wr.drew.cell? _ = _ := c5
      replace c6 : wr.drew.cell? _ = _ := c6
      replace g0 : wr.drew.cell? _ = _ := g0
      replace g1 : wr.drew.cell? _ = _ := g1
      replace g2 : wr.drew.cell? _ = _ := g2
      replace g3 : wr.drew.cell? _ = _ := g3
      replace g4 : wr.drew.cell? _ = _ := g4
      replace g5 : wr.drew.cell? _ = _ := g5
      replace g6 : wr.drew.cell? _ = _ := g6
      replace Hnx := hide (Hnx.out.below (RowKit.Below.refl wr.heap.size wr).drew)
      replace Hny := hide (Hny.out.below (RowKit.Below.refl wr.heap.size wr).drew)
      clear Hz HBd
      generalize wr.drew = V0 at *
      have HGw := hide (fun d os => below_regrown V0 d os)
      have hsr : sameR ⟨site, seq, dep, key, val⟩ ⟨site, seq, dep, key, val⟩ = true := sameR_refl _
      have QO := hide (fun d os => Calls.regrown_of (recOfLaw_calls (.agg #[.int .i64 site, .int .i64 seq, .slice da dep.length dc, .string key, .string val]) ⟨site, seq, dep, key, val⟩ (Go.Sort.grow (redrawn V0 d) os) ⟨da, dc, rfl, Hnx.out.below (HGw.out d os)⟩))
      have QS := hide (fun d os => Calls.regrown_of (hsr ▸ sameRec9_calls (.agg #[.int .i64 site, .int .i64 seq, .slice da dep.length dc, .string key, .string val]) (.agg #[.int .i64 site, .int .i64 seq, .slice da' dep.length dc', .string key, .string val]) ⟨site, seq, dep, key, val⟩ ⟨site, seq, dep, key, val⟩ (Go.Sort.grow (redrawn V0 d) os) ⟨da, dc, rfl, Hnx.out.below (HGw.out d os)⟩ ⟨da', dc', rfl, Hny.out.below (HGw.out d os)⟩ (by dsimp only; omega) (by dsimp only; omega)))
      clear hsr
      replace c0 := cell_regrown c0
      replace c1 := cell_regrown c1
      replace c2 := cell_regrown c2
      replace c3 := cell_regrown c3
      replace c4 := cell_regrown c4
      replace c5 := cell_regrown c5
      replace c6 := cell_regrown c6
      replace g0 := cell_regrown g0
      replace g1 := cell_regrown g1
      replace g2 := cell_regrown g2
      replace g3 := cell_regrown g3
      replace g4 := cell_regrown g4
      replace g5 := cell_regrown g5
      replace g6 := cell_regrown g6
      refine quietFromB 0 (by kernel_rfl) (by kernel_rfl) ?_
      simp only [List.drop_zero]
      first | go_big_quiet_step (fail) | quiet_step (fail)
      first | go_big_quiet_step (fail) | quiet_step (fail)
      first | go_big_quiet_step (fail) | quiet_step (fail)
      first | go_big_quiet_step (fail) | quiet_step (fail)
      first | go_big_quiet_step (fail) | quiet_step (fail)
      first | go_big_quiet_step (fail) | quiet_step (fail)
      first | go_big_quiet_step (fail) | quiet_step (fail)
      first | go_big_quiet_step (fail) | quiet_step (fail)
      first | go_big_quiet_step (fail) | quiet_step (fail)
      first | go_big_quiet_step (fail) | quiet_step (fail)
      first | go_big_quiet_step (fail) | quiet_step (fail)
      first | go_big_quiet_step (fail) | quiet_step (fail)
      first | go_big_quiet_step (fail) | quiet_step (fail)
      first | go_big_quiet_step (fail) | quiet_step (fail)
      first | go_big_quiet_step (fail) | quiet_step (fail)
      first | go_big_quiet_step (fail) | quiet_step (fail)
      first | go_big_quiet_step (fail) | quiet_step (fail)
      first | go_big_quiet_step (fail) | quiet_step (fail)
      first | go_big_quiet_step (fail) | quiet_step (fail)
      first | go_big_quiet_step (fail) | quiet_step (fail)
      first | go_big_quiet_step (fail) | quiet_step (fail)
      first | go_big_quiet_step (fail) | quiet_step (fail)
      first | go_big_quiet_step (fail) | quiet_step (fail)
      first | go_big_quiet_step (fail) | quiet_step (fail)
      first | go_big_quiet_step (fail) | quiet_step (fail)
      first | go_big_quiet_step (fail) | quiet_step (fail)
      first | go_big_quiet_step (fail) | quiet_step (fail)
      first | go_big_quiet_step (fail) | quiet_step (fail)
      first | go_big_quiet_step (fail) | quiet_step (fail)
      first | go_big_quiet_step (fail) | quiet_step (fail)
      first | go_big_quiet_step (fail) | quiet_step (fail)
      first | go_big_quiet_step (fail) | quiet_step (fail)
      first | go_big_quiet_step (fail) | quiet_step (fail)
      first | go_big_quiet_step (exact QO.out _ _) | quiet_step (exact QO.out _ _)
      first | go_big_quiet_step (fail) | quiet_step (fail)
      first | go_big_quiet_step (fail) | quiet_step (fail)
      first | go_big_quiet_step (fail) | quiet_step (fail)
      first | go_big_quiet_step (fail) | quiet_step (fail)
      first | go_big_quiet_step (fail) | quiet_step (fail)
      first | go_big_quiet_step (fail) | quiet_step (fail)
      first | go_big_quiet_step (exact QS.out _ _) | quiet_step (exact QS.out _ _)
      first | go_big_quiet_step (fail) | quiet_step (fail)
      first | go_big_quiet_step (fail) | quiet_step (fail)
      refine wpQuiet_nil ?_
      intro _ hw'
      obtain ⟨⟨dq, osq⟩, hw''⟩ := hw'
      subst hw''
      clear c0 c1 c2 c3 c4 c5 c6 g0 g1 g2 g3 g4 g5 g6 QS QO
      go_simp
      try simp only [noPanic]
      go_step
      go_wp2_with fail
      exact ⟨⟨k + 1, by omega, by go_num, HBw.out.trans ((HGw.out dq osq).mono HBw.out.size)⟩, by simp [intOf]; omega⟩
    · have h1I : ¬ (k : Int) < (l.length : Int) := by omega
      go_wp2_with fail
      go_ret
      exact ⟨rfl, Hb.out⟩

end Go.Proofs.Ytdkpbfigjdmfpaa
