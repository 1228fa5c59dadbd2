/- Own work: the parts TK19, TK20, RefB, TKv, TKb, TKh of the proof, laid together. -/
import Derived.Test.YtdkpbfigjdmfpaaPartTokenRight1
import Derived.Test.YtdkpbfigjdmfpaaPartTokenRight3
import Derived.Test.YtdkpbfigjdmfpaaPartTokenChain10
import Derived.Test.YtdkpbfigjdmfpaaPartTokenRight4
import Derived.Laws.AppendOwn
import Derived.Test.YtdkpbfigjdmfpaaPartTokenChain9
import Derived.Test.YtdkpbfigjdmfpaaPartTokenChain3
import Derived.OrdersHeld
/- The reference's May of layer 9. Own work; no statement. -/
set_option linter.unusedSimpArgs false
set_option linter.unusedVariables false
namespace Go.Proofs.Ytdkpbfigjdmfpaa
open Go.RowKit Go.Shelf Go.Sort

set_option maxHeartbeats 4000000 in
theorem refMay_calls (vt vd : Value) (t : TokD) (d : DrD) (w : World) (ht : IsTok w vt t) (hd : IsDr w vd d) (hs : SeenOk t.seen) (hdl : d.r.dep.length ≤ 1099511627776) :
    Calls Try.prog 15 #[vt, vd] w fun e w' => e = .returned (.bool (mayD t.own t.seen d)) ∧ RowKit.Below w.heap.size w w' := by
  obtain ⟨c, hc⟩ : ∃ c, mayD t.own t.seen d = c := ⟨_, rfl⟩
  rw [hc]
  unfold mayD at hc
  have hl := hs.len
  obtain ⟨own, next, seen, late⟩ := t
  obtain ⟨ticket, ⟨site, seq, dep, key, val⟩⟩ := d
  obtain ⟨sa, sc, la, lc, rfl, hn, -⟩ := ht
  obtain ⟨a, cap, rfl, hm⟩ := hd
  dsimp only at *
  have hg0 := hs.rng own
  have hg1 := hs.rng site
  obtain ⟨W0, hW0, hsz, hB0, h0, h1, h2⟩ := new3T w #[.int .i64 own, .int .i64 next, .slice sa seen.length sc, .slice la late.length lc] #[.int .i64 ticket, .int .i64 site, .int .i64 seq, .slice a dep.length cap, .string key, .string val] #[.int .i64 site, .int .i64 seq, .slice a dep.length cap, .string key, .string val] 34 46 44
  have CG0 := hide (refGet_calls _ seen own W0 (hn.below hB0) (by omega))
  have CG1 := hide (fun nq => refGet_calls _ seen site (W0.drewN nq) ((hn.below hB0).below (drewsB W0 nq)) (by omega))
  have CC0 := hide (refCovers_calls _ _ seen dep W0 (hn.below hB0) (hm.below hB0) (by omega) hdl)
  have CC1 := hide (fun nq => refCovers_calls _ _ seen dep (W0.drewN nq) ((hn.below hB0).below (drewsB W0 nq)) ((hm.below hB0).below (drewsB W0 nq)) (by omega) hdl)
  obtain ⟨g, hgg⟩ : ∃ g, geti seen own = g := ⟨_, rfl⟩
  obtain ⟨g', hgg'⟩ : ∃ g, geti seen site = g := ⟨_, rfl⟩
  obtain ⟨cv, hcv⟩ : ∃ c, everyB covB seen dep = c := ⟨_, rfl⟩
  rw [hgg] at CG0 hg0
  rw [hgg'] at CG1 hg1
  rw [hcv] at CC0 CC1
  rw [hgg, hgg', hcv] at hc
  have HW := hide hW0
  have HB := hide hB0
  obtain ⟨x0, x1, x2, x3, -⟩ := cells4T h0
  obtain ⟨r0, r1, r2⟩ : W0.cell? ⟨w.heap.size + 2, 0, none⟩ = some (.int .i64 site) ∧ W0.cell? ⟨w.heap.size + 2, 1, none⟩ = some (.int .i64 seq) ∧ W0.cell? ⟨w.heap.size + 2, 2, none⟩ = some (.slice a dep.length cap) := by simp [World.cell?, h2]
  have Hc := hide hc
  clear hW0 hB0 h0 h1 h2 hsz hn hm hs hc hgg hgg' hcv
  by_cases hso : site = own
  · have hc1 := Hc.out
    rw [if_pos hso] at hc1
    subst hso
    by_cases hq : seq = 0
    · subst hq
      by_cases hg : g < 1048576
      · go_enter Try.func15, Try.ntmps15
        go_upto_region 2 with fail
        rw [HW.out]
        go_wp2_with (first | (go_at_call 22; refine CG0.out.mono ?_; rintro e w2 ⟨rfl, rfl⟩) | (go_at_call 23; refine CC0.out.mono ?_; rintro e w2 ⟨rfl, rfl⟩))
        go_ret
        exact ⟨by rw [← hc1]; simp [hg], HB.out⟩
      · go_enter Try.func15, Try.ntmps15
        go_upto_region 2 with fail
        rw [HW.out]
        go_wp2_with (first | (go_at_call 22; refine CG0.out.mono ?_; rintro e w2 ⟨rfl, rfl⟩) | (go_at_call 23; refine CC0.out.mono ?_; rintro e w2 ⟨rfl, rfl⟩))
        go_ret
        exact ⟨by rw [← hc1, decide_eq_false (Int.not_lt.2 hg)]; simp, HB.out⟩
    · have hqb : (seq == 0) = false := by simpa using hq
      go_enter Try.func15, Try.ntmps15
      go_upto_region 2 with fail
      rw [HW.out]
      go_wp2_with fail
      go_ret
      exact ⟨by rw [← hc1]; simp [hq], HB.out⟩
  · have hc1 := Hc.out
    rw [if_neg hso] at hc1
    have hsb : (site == own) = false := by simpa using hso
    by_cases hq : seq = g' + 1
    · have hqb : (seq == g' + 1) = true := by simpa using hq
      have Hq := hide hq
      clear hq
      go_enter Try.func15, Try.ntmps15
      go_upto_region 2 with fail
      rw [HW.out]
      go_upto_region 4 with fail
      go_quiet (first | (go_at_call 22; refine Calls.quiet_of_same (CG1.out _)) | (go_at_call 23; refine Calls.quiet_of_same (CC1.out _)))
      go_wp2_with fail
      go_ret
      exact ⟨by rw [← hc1, Hq.out]; simp, HB.out.trans ((drewsB W0 nq).mono HB.out.size)⟩
    · have hqb : (seq == g' + 1) = false := by simpa using hq
      have Hq := hide hq
      clear hq
      go_enter Try.func15, Try.ntmps15
      go_upto_region 2 with fail
      rw [HW.out]
      go_upto_region 4 with fail
      go_quiet (first | (go_at_call 22; refine Calls.quiet_of_same (CG1.out _)) | (go_at_call 23; refine Calls.quiet_of_same (CC1.out _)))
      go_wp2_with fail
      go_ret
      exact ⟨by rw [← hc1]; simp [Hq.out], HB.out.trans ((drewsB W0 nq).mono HB.out.size)⟩

end Go.Proofs.Ytdkpbfigjdmfpaa

/- The laws' SameDrafts and Same of layer 9, on what is the same. Own work; no statement. -/
set_option linter.unusedSimpArgs false
set_option linter.unusedVariables false
namespace Go.Proofs.Ytdkpbfigjdmfpaa
open Go.RowKit Go.Shelf Go.Sort

theorem sameR_refl (r : RecD) : sameR r r = true := by
  unfold sameR
  simp [(same_iff r.dep r.dep).2 fun i => rfl]

set_option maxHeartbeats 8000000 in
set_option maxRecDepth 100000 in
theorem sameDrafts_calls (va vb : Value) (l : List DrD) (w : World) (ha : IsDrs w va l) (hb : IsDrs w vb l) (hd : ∀ d ∈ l, d.r.dep.length ≤ 1099511627776) (hll : l.length ≤ 1048576) :
    Calls Try.prog 41 #[va, vb] w fun e w' => e = .returned (.bool true) ∧ RowKit.Below w.heap.size w w' := by
  obtain ⟨xs, hxs, hxr, hxn⟩ := ha.rd
  obtain ⟨ys, hys, hyr, hyn⟩ := hb.rd
  have hxL : xs.length = l.length := by rw [← hxs, List.length_map]
  have hyL : ys.length = l.length := by rw [← hys, List.length_map]
  obtain ⟨a, cap, rfl, -, -, hat⟩ := hxr
  obtain ⟨a', cap', rfl, -, -, hat'⟩ := hyr
  rw [hxL, hyL]
  have Hat := hide hat
  have Hat' := hide hat'
  have Hxn := hide hxn
  have Hyn := hide hyn
  have Hxs := hide hxs
  have Hys := hide hys
  have Hd := hide hd
  have HxL := hide hxL
  have HyL := hide hyL
  clear hat hat' hxn hyn hxs hys hd ha hb hxL hyL
  go_enter Try.func41, Try.ntmps41
  go_wp2_with fail
  go_loopw [5] (fun i wr => ∃ k : Nat, k ≤ l.length ∧ i = .int .i64 (k : Int) ∧ RowKit.Below w.heap.size w wr) (fun i _ => l.length - (intOf i).toNat)
  case atStart => exact ⟨0, Nat.zero_le _, rfl, RowKit.Below.refl _ _⟩
  case round =>
    obtain ⟨k, hk, rfl, hbw⟩ := hrel
    have Hb := hide hbw
    clear hbw
    by_cases h1 : k < l.length
    · have h1I : (k : Int) < (l.length : Int) := by omega
      have hx1 : k < xs.length := by have := HxL.out; omega
      have hy1 : k < ys.length := by have := HyL.out; omega
      obtain ⟨b, o, rfl, hc⟩ := Hat.out k hx1
      obtain ⟨b', o', rfl, hc'⟩ := Hat'.out k hy1
      have hnx := Hxn.out xs[k] (List.getElem_mem hx1)
      have hny := Hyn.out ys[k] (List.getElem_mem hy1)
      have hex : xs[k].d = l[k] := by
        have h := congrArg (fun z => z[k]?) Hxs.out
        simpa [List.getElem?_map, List.getElem?_eq_getElem hx1, List.getElem?_eq_getElem h1] using h
      have hey : ys[k].d = l[k] := by
        have h := congrArg (fun z => z[k]?) Hys.out
        simpa [List.getElem?_map, List.getElem?_eq_getElem hy1, List.getElem?_eq_getElem h1] using h
      have hdk := Hd.out l[k] (List.getElem_mem h1)
      obtain ⟨⟨dx, vd⟩, hx⟩ : ∃ x, xs[k] = x := ⟨_, rfl⟩
      obtain ⟨⟨dy, vd'⟩, hy⟩ : ∃ x, ys[k] = x := ⟨_, rfl⟩
      rw [hx] at hc hnx hex
      rw [hy] at hc' hny hey
      dsimp only at hex hey hnx hny
      rw [← hex] at hey hdk
      subst hey
      obtain ⟨ticket, ⟨site, seq, dep, key, val⟩⟩ := dy
      dsimp only at hnx hny hdk
      obtain ⟨da, dc, rfl⟩ := hnx.form
      obtain ⟨da', dc', rfl⟩ := hny.form
      have hblt : b < w.heap.size := by
        have := hc 0 (by omega)
        exact World.block_lt_of_cell? w _ (this.trans (by simp [Dv.cells]; rfl))
      have hblt' : b' < w.heap.size := by
        have := hc' 0 (by omega)
        exact World.block_lt_of_cell? w _ (this.trans (by simp [Dv.cells]; rfl))
      have cc : ∀ j, j < 6 → wr.cell? ⟨b, o + k * 6 + j, none⟩ = _ := fun j hj => (Hb.out.cell (p := ⟨b, o + k * 6 + j, none⟩) hblt).trans (hc j hj)
      have cc' : ∀ j, j < 6 → wr.cell? ⟨b', o' + k * 6 + j, none⟩ = _ := fun j hj => (Hb.out.cell (p := ⟨b', o' + k * 6 + j, none⟩) hblt').trans (hc' j hj)
      have c0 := cc 0 (by omega)
      have c1 := cc 1 (by omega)
      have c2 := cc 2 (by omega)
      have c3 := cc 3 (by omega)
      have c4 := cc 4 (by omega)
      have c5 := cc 5 (by omega)
      have g0 := cc' 0 (by omega)
      have g1 := cc' 1 (by omega)
      have g2 := cc' 2 (by omega)
      have g3 := cc' 3 (by omega)
      have g4 := cc' 4 (by omega)
      have g5 := cc' 5 (by omega)
      simp only [Dv.cells, List.getElem?_cons_zero, List.getElem?_cons_succ, Nat.add_zero] at c0 c1 c2 c3 c4 c5 g0 g1 g2 g3 g4 g5
      have Hnx := hide hnx
      have Hny := hide hny
      clear hx hy hc hc' cc cc' hnx hny hblt hblt' hex
      go_upto_region 6 with fail
      refine region_begin 25 (by kernel_rfl) (by kernel_rfl) ?_
      have HBd := hide Hb.out.drew
      replace c0 : wr.drew.cell? _ = _ := c0
      replace c1 : wr.drew.cell? _ = _ := c1
      replace c2 : wr.drew.cell? _ = _ := c2
      replace c3 : wr.drew.cell? _ = _ := c3
      replace c4 : wr.drew.cell? _ = _ := c4
      replace c5 : wr.drew.cell? _ = _ := c5
      replace g0 : wr.drew.cell? _ = _ := g0
      replace g1 : wr.drew.cell? _ = _ := g1
      replace g2 : wr.drew.cell? _ = _ := g2
      replace g3 : wr.drew.cell? _ = _ := g3
      replace g4 : wr.drew.cell? _ = _ := g4
      replace g5 : wr.drew.cell? _ = _ := g5
      generalize wr.drew = V0 at *
      have HGw := hide (fun d os => HBd.out.trans ((below_regrown V0 d os).mono HBd.out.size))
      have hsr : sameR ⟨site, seq, dep, key, val⟩ ⟨site, seq, dep, key, val⟩ = true := sameR_refl _
      have QS := hide (fun d os => Calls.regrown_of (hsr ▸ sameRec9_calls (.agg #[.int .i64 site, .int .i64 seq, .slice da dep.length dc, .string key, .string val]) (.agg #[.int .i64 site, .int .i64 seq, .slice da' dep.length dc', .string key, .string val]) ⟨site, seq, dep, key, val⟩ ⟨site, seq, dep, key, val⟩ (Go.Sort.grow (redrawn V0 d) os) ⟨da, dc, rfl, Hnx.out.below (HGw.out d os)⟩ ⟨da', dc', rfl, Hny.out.below (HGw.out d os)⟩ hdk hdk))
      clear hsr
      replace c0 := cell_regrown c0
      replace c1 := cell_regrown c1
      replace c2 := cell_regrown c2
      replace c3 := cell_regrown c3
      replace c4 := cell_regrown c4
      replace c5 := cell_regrown c5
      replace g0 := cell_regrown g0
      replace g1 := cell_regrown g1
      replace g2 := cell_regrown g2
      replace g3 := cell_regrown g3
      replace g4 := cell_regrown g4
      replace g5 := cell_regrown g5
      refine quietFromB 0 (by kernel_rfl) (by kernel_rfl) ?_
      simp only [List.drop_zero]
      first | go_big_quiet_step (fail) | quiet_step (fail)
      first | go_big_quiet_step (fail) | quiet_step (fail)
      first | go_big_quiet_step (fail) | quiet_step (fail)
      first | go_big_quiet_step (fail) | quiet_step (fail)
      first | go_big_quiet_step (fail) | quiet_step (fail)
      first | go_big_quiet_step (fail) | quiet_step (fail)
      first | go_big_quiet_step (fail) | quiet_step (fail)
      first | go_big_quiet_step (fail) | quiet_step (fail)
      first | go_big_quiet_step (fail) | quiet_step (fail)
      first | go_big_quiet_step (fail) | quiet_step (fail)
      first | go_big_quiet_step (fail) | quiet_step (fail)
      first | go_big_quiet_step (fail) | quiet_step (fail)
      first | go_big_quiet_step (fail) | quiet_step (fail)
      first | go_big_quiet_step (fail) | quiet_step (fail)
      first | go_big_quiet_step (fail) | quiet_step (fail)
      first | go_big_quiet_step (fail) | quiet_step (fail)
      first | go_big_quiet_step (fail) | quiet_step (fail)
      first | go_big_quiet_step (fail) | quiet_step (fail)
      first | go_big_quiet_step (fail) | quiet_step (fail)
      first | go_big_quiet_step (fail) | quiet_step (fail)
      first | go_big_quiet_step (fail) | quiet_step (fail)
      first | go_big_quiet_step (fail) | quiet_step (fail)
      first | go_big_quiet_step (exact QS.out _ _) | quiet_step (exact QS.out _ _)
      first | go_big_quiet_step (fail) | quiet_step (fail)
      first | go_big_quiet_step (fail) | quiet_step (fail)
      refine wpQuiet_nil ?_
      intro _ hw'
      obtain ⟨⟨dq, osq⟩, hw''⟩ := hw'
      subst hw''
      clear c0 c1 c2 c3 c4 c5 g0 g1 g2 g3 g4 g5 QS
      go_simp
      try simp only [noPanic]
      go_step
      go_wp2_with fail
      exact ⟨⟨k + 1, by omega, by go_num, HGw.out dq osq⟩, by simp [intOf]; omega⟩
    · have h1I : ¬ (k : Int) < (l.length : Int) := by omega
      go_wp2_with fail
      go_ret
      exact ⟨rfl, Hb.out⟩

set_option maxHeartbeats 4000000 in
theorem sameTok_calls (va vb : Value) (t : TokD) (w : World) (ha : IsTok w va t) (hb : IsTok w vb t) (hd : ∀ d ∈ t.late, d.r.dep.length ≤ 1099511627776) (hll : t.late.length ≤ 1048576) (hs : t.seen.length ≤ 1099511627776) :
    Calls Try.prog 20 #[va, vb] w fun e w' => e = .returned (.bool true) ∧ RowKit.Below w.heap.size w w' := by
  obtain ⟨own, next, seen, late⟩ := t
  obtain ⟨sa, sc, la, lc, rfl, hn, hl⟩ := ha
  obtain ⟨sa', sc', la', lc', rfl, hn', hl'⟩ := hb
  dsimp only at *
  obtain ⟨W0, hW0, hsz, hB0, h0, h1⟩ := new2T w #[.int .i64 own, .int .i64 next, .slice sa seen.length sc, .slice la late.length lc] #[.int .i64 own, .int .i64 next, .slice sa' seen.length sc', .slice la' late.length lc'] 34 34
  have CS := hide (refSame_calls _ _ seen seen W0 (hn.below hB0) (hn'.below hB0) hs hs)
  rw [(same_iff seen seen).2 fun i => rfl] at CS
  have CD := hide (sameDrafts_calls _ _ late W0 (hl.below hB0) (hl'.below hB0) hd hll)
  obtain ⟨x0, x1, x2, x3, -⟩ := cells4T h0
  obtain ⟨y0, y1, y2, y3, -⟩ := cells4T h1
  have HW := hide hW0
  have HB := hide hB0
  clear hW0 hB0 h0 h1 hsz hn hl hn' hl'
  go_enter Try.func20, Try.ntmps20
  go_upto_region 1 with fail
  rw [HW.out]
  go_wp2_with (first | (go_at_call 25; refine CS.out.mono ?_; rintro e w2 ⟨rfl, rfl⟩) | (go_at_call 41; refine CD.out.mono ?_; rintro e w2 ⟨rfl, hb2⟩; have HB2 := hide (HB.out.trans (hb2.mono HB.out.size)); clear hb2))
  go_ret
  exact ⟨rfl, HB2.out⟩

end Go.Proofs.Ytdkpbfigjdmfpaa

/- The walks of the reference's Decimal, VecText, With. Own work; no statement. -/
set_option linter.unusedSimpArgs false
set_option linter.unusedVariables false
namespace Go.Proofs.Ytdkpbfigjdmfpaa
open Go.RowKit Go.Shelf

def headD (u : Nat) : List UInt8 := if u < 10 then [] else Lib.decDigits (u / 10)
theorem digits_head (u : Nat) : Lib.decDigits u = headD u ++ [UInt8.ofNat (48 + u % 10)] := by
  rw [Lib.decDigits]
  unfold headD
  split
  · rename_i h
    rw [Nat.mod_eq_of_lt h]; rfl
  · rfl
theorem cons_bytes (b : UInt8) (S : List UInt8) : (⟨#[b]⟩ : ByteArray) ++ ⟨S.toArray⟩ = ⟨(b :: S).toArray⟩ := by
  apply ByteArray.ext
  simp [ByteArray.data_append]
theorem conv_one (w : World) (b : UInt8) (c : Int) (hc : (b.toNat : Int) = c) : (convert 62 9 (.slice (some ⟨w.heap.size, 0, none⟩) 1 1)).run Try.prog (w.alloc (.cells #[.int .u8 c] 5)) = .ok (.string ⟨#[b]⟩) (w.alloc (.cells #[.int .u8 c] 5)) := by
  subst hc
  have h : (w.alloc (.cells #[.int .u8 (b.toNat : Int)] 5)).ownsRow 0 5 1 (.slice (some ⟨w.heap.size, 0, none⟩) 1 1) 1 (Lib.byteCells [b]) := World.ownsRow_lit _ #[.int .u8 (b.toNat : Int)] 1 (Nat.zero_le _) (by unfold maxLen; omega) rfl
  exact conv_row h Try.underlying62 Try.underlying5 Try.underlying9

def lenOf' : Value → Nat
  | .slice _ n _ => n
  | _ => 0
theorem stretchL_succ (l : List Int) (k : Nat) (h : l.length ≤ k) : stretchL l (k + 1) = stretchL l k ++ [0] := by
  unfold stretchL
  rw [show k + 1 - l.length = (k - l.length) + 1 by omega, List.replicate_succ', List.append_assoc]

set_option maxRecDepth 100000 in
set_option maxHeartbeats 2000000 in
theorem refWith_calls (v : Value) (l : List Int) (i n : Int) (w : World) (hv : IsNums .i64 w v l) (hl : l.length ≤ 1048576) :
    Calls Try.prog 24 #[v, .int .i64 i, .int .i64 n] w fun e w' => ∃ v', e = .returned v' ∧ IsNums .i64 w' v' (withL l i n) ∧ Below w.heap.size w w' := by
  obtain ⟨i0, hi, hz0, hz1, hz2⟩ := info_parts Try.info3
  have hrow0 : (w.alloc (.cells #[] 3)).ownsRow w.heap.size 3 1 (.slice (some ⟨w.heap.size, 0, none⟩) 0 0) 0 [] := World.ownsRow_lit w #[] 0 (Nat.le_refl _) (by unfold maxLen; omega) rfl
  rcases hv.cases with ⟨rfl, a1, cap, rfl⟩ | ⟨b, o, capa, rfl, -, hcap, hb, hcell⟩
  · cases a1 with
    | none =>
      by_cases h : i < 0 ∨ 63 < i
      · have E := hide (show withL [] i n = [] by rw [withL, if_pos h])
        rcases h with h | h
        · go_enter Try.func24, Try.ntmps24
          go_wp2_with fail
          go_ret
          exact ⟨_, rfl, by rw [E.out]; exact IsNums.nil _ _ _ _, (alloc_below w _)⟩
        · have h0 : ¬ i < 0 := by omega
          go_enter Try.func24, Try.ntmps24
          go_wp2_with fail
          go_ret
          exact ⟨_, rfl, by rw [E.out]; exact IsNums.nil _ _ _ _, (alloc_below w _)⟩
      · have e : withL [] i n = (stretchL [] (max ([] : List Int).length (i.toNat + 1))).set i.toNat n := by rw [withL, if_neg h]
        obtain ⟨q, rfl⟩ := Int.eq_ofNat_of_zero_le (show 0 ≤ i by omega)
        rw [Int.toNat_natCast] at e
        have E := hide e
        clear e
        have h0 : ¬ (q : Int) < 0 := by omega
        have h1 : ¬ 63 < (q : Int) := by omega
        clear h
        obtain ⟨l, hl0⟩ : ∃ l : List Int, l = [] := ⟨_, rfl⟩
        replace E := hide (show withL [] (q : Int) n = (stretchL l (max l.length (q + 1))).set q n by rw [hl0]; exact E.out)
        have hl00 : l.length = 0 := by rw [hl0]; rfl
        have hrow1 : (w.alloc (.cells #[] 3)).ownsRow w.heap.size 3 1 (.slice (some ⟨w.heap.size, 0, none⟩) 0 0) l.length (l.map (Value.int .i64)) := by rw [hl0]; exact hrow0
        clear hl0
        go_enter Try.func24, Try.ntmps24
        go_wp2_with fail
        go_loopw [7] (fun v wr => ∃ k : Nat, l.length ≤ k ∧ k ≤ max l.length (q + 1) ∧ wr.ownsRow w.heap.size 3 1 v k ((stretchL l k).map (Value.int .i64)) ∧ Below w.heap.size w wr) (fun v _ => q + 1 - lenOf' v)
        case atStart => exact ⟨l.length, Nat.le_refl _, by omega, by rw [stretchL_self]; exact hrow1, (alloc_below w _)⟩
        case round =>
          obtain ⟨k, hk1, hk2, hown, hB⟩ := hrel
          have hbs := hB.size
          by_cases hle : (k : Int) ≤ (q : Int)
          · obtain ⟨pv, cv, rfl⟩ := ownsRow_slice hown
            go_wp2_with (at_builtin; refine wpList_append_own _ rfl _ _ 22 rfl w.heap.size 3 i0 (.int .i64 0) 1 8 Try.underlying22 hi hz0 hz1 hz2 rfl (by decide) _ _ _ rfl (hown.alloc _) ⟨wr.heap.size, 0, none⟩ 1 1 [.int .i64 0] rfl rfl (cell_one_new _ _ _) (by intro u hu; simp at hu; subst hu; rfl) (by unfold maxLen; omega) (by omega) (by simp; omega) ?_; intro v2 w2 hown2 hgrow2 _)
            obtain ⟨pv2, cv2, rfl⟩ := ownsRow_slice hown2
            refine ⟨⟨k + 1, by omega, by omega, ?_, (hB.alloc hB.size _).grown hgrow2 (by simp; omega) (fun j hj => (hown.lt j hj).1)⟩, by simp [lenOf']; omega⟩
            rw [stretchL_succ l k hk1, List.map_append]
            exact hown2
          · have hkm : k = max l.length (q + 1) := by omega
            obtain ⟨k0, rfl⟩ : ∃ k0, k = k0 + 1 := ⟨k - 1, by omega⟩
            obtain rfl : q = k0 := by omega
            obtain ⟨gg, cv, rfl⟩ := ownsRow_succ hown
            have hc := hown.cellAt q (by omega)
            have hf := hown.frozenAt q
            have hlq : (q : Int) < (q : Int) + 1 := by omega
            obtain ⟨hown2, hg2⟩ := hown.stored q (.int .i64 n)
            rw [List.getElem?_map, List.getElem?_eq_getElem (by rw [stretchL_length _ _ hk1]; omega), Option.map_some] at hc
            generalize (stretchL l (q + 1))[q]'(by rw [stretchL_length _ _ hk1]; omega) = old at hc
            have hlt := (hown.lt gg rfl).1
            have HO := hide hown2
            replace hkm := hide hkm
            clear hown hown2 hg2
            go_wp2_with fail
            go_ret
            refine ⟨_, rfl, ?_, hB.setCell (p := ⟨gg, q, none⟩) hlt _⟩
            have := HO.out
            rw [← List.map_set] at this
            rw [E.out, ← hkm.out]
            exact IsNums.of_row this
    | some ad =>
      by_cases h : i < 0 ∨ 63 < i
      · have E := hide (show withL [] i n = [] by rw [withL, if_pos h])
        rcases h with h | h
        · go_enter Try.func24, Try.ntmps24
          go_wp2_with fail
          go_ret
          exact ⟨_, rfl, by rw [E.out]; exact IsNums.nil _ _ _ _, (alloc_below w _)⟩
        · have h0 : ¬ i < 0 := by omega
          go_enter Try.func24, Try.ntmps24
          go_wp2_with fail
          go_ret
          exact ⟨_, rfl, by rw [E.out]; exact IsNums.nil _ _ _ _, (alloc_below w _)⟩
      · have e : withL [] i n = (stretchL [] (max ([] : List Int).length (i.toNat + 1))).set i.toNat n := by rw [withL, if_neg h]
        obtain ⟨q, rfl⟩ := Int.eq_ofNat_of_zero_le (show 0 ≤ i by omega)
        rw [Int.toNat_natCast] at e
        have E := hide e
        clear e
        have h0 : ¬ (q : Int) < 0 := by omega
        have h1 : ¬ 63 < (q : Int) := by omega
        clear h
        obtain ⟨l, hl0⟩ : ∃ l : List Int, l = [] := ⟨_, rfl⟩
        replace E := hide (show withL [] (q : Int) n = (stretchL l (max l.length (q + 1))).set q n by rw [hl0]; exact E.out)
        have hl00 : l.length = 0 := by rw [hl0]; rfl
        have hrow1 : (w.alloc (.cells #[] 3)).ownsRow w.heap.size 3 1 (.slice (some ⟨w.heap.size, 0, none⟩) 0 0) l.length (l.map (Value.int .i64)) := by rw [hl0]; exact hrow0
        clear hl0
        go_enter Try.func24, Try.ntmps24
        go_wp2_with fail
        go_loopw [7] (fun v wr => ∃ k : Nat, l.length ≤ k ∧ k ≤ max l.length (q + 1) ∧ wr.ownsRow w.heap.size 3 1 v k ((stretchL l k).map (Value.int .i64)) ∧ Below w.heap.size w wr) (fun v _ => q + 1 - lenOf' v)
        case atStart => exact ⟨l.length, Nat.le_refl _, by omega, by rw [stretchL_self]; exact hrow1, (alloc_below w _)⟩
        case round =>
          obtain ⟨k, hk1, hk2, hown, hB⟩ := hrel
          have hbs := hB.size
          by_cases hle : (k : Int) ≤ (q : Int)
          · obtain ⟨pv, cv, rfl⟩ := ownsRow_slice hown
            go_wp2_with (at_builtin; refine wpList_append_own _ rfl _ _ 22 rfl w.heap.size 3 i0 (.int .i64 0) 1 8 Try.underlying22 hi hz0 hz1 hz2 rfl (by decide) _ _ _ rfl (hown.alloc _) ⟨wr.heap.size, 0, none⟩ 1 1 [.int .i64 0] rfl rfl (cell_one_new _ _ _) (by intro u hu; simp at hu; subst hu; rfl) (by unfold maxLen; omega) (by omega) (by simp; omega) ?_; intro v2 w2 hown2 hgrow2 _)
            obtain ⟨pv2, cv2, rfl⟩ := ownsRow_slice hown2
            refine ⟨⟨k + 1, by omega, by omega, ?_, (hB.alloc hB.size _).grown hgrow2 (by simp; omega) (fun j hj => (hown.lt j hj).1)⟩, by simp [lenOf']; omega⟩
            rw [stretchL_succ l k hk1, List.map_append]
            exact hown2
          · have hkm : k = max l.length (q + 1) := by omega
            obtain ⟨k0, rfl⟩ : ∃ k0, k = k0 + 1 := ⟨k - 1, by omega⟩
            obtain rfl : q = k0 := by omega
            obtain ⟨gg, cv, rfl⟩ := ownsRow_succ hown
            have hc := hown.cellAt q (by omega)
            have hf := hown.frozenAt q
            have hlq : (q : Int) < (q : Int) + 1 := by omega
            obtain ⟨hown2, hg2⟩ := hown.stored q (.int .i64 n)
            rw [List.getElem?_map, List.getElem?_eq_getElem (by rw [stretchL_length _ _ hk1]; omega), Option.map_some] at hc
            generalize (stretchL l (q + 1))[q]'(by rw [stretchL_length _ _ hk1]; omega) = old at hc
            have hlt := (hown.lt gg rfl).1
            have HO := hide hown2
            replace hkm := hide hkm
            clear hown hown2 hg2
            go_wp2_with fail
            go_ret
            refine ⟨_, rfl, ?_, hB.setCell (p := ⟨gg, q, none⟩) hlt _⟩
            have := HO.out
            rw [← List.map_set] at this
            rw [E.out, ← hkm.out]
            exact IsNums.of_row this
  · have hnews : ∀ j u, (l.map (Value.int .i64))[j]? = some u → (w.alloc (.cells #[] 3)).cell? ((⟨b, o, none⟩ : Addr).add j) = some u := by
      intro j u hu
      rw [List.getElem?_map] at hu
      by_cases hj : j < l.length
      · rw [List.getElem?_eq_getElem hj, Option.map_some] at hu
        cases hu
        rw [Lib.add_plain]
        rw [World.cell?_alloc_past _ _ _ hb, hcell j hj, getD_in l j hj]
      · rw [List.getElem?_eq_none (by omega)] at hu
        simp at hu
    clear hcell hv
    by_cases h : i < 0 ∨ 63 < i
    · have E := hide (show withL l i n = l by rw [withL, if_pos h])
      rcases h with h | h
      · go_enter Try.func24, Try.ntmps24
        go_wp2_with (at_builtin; refine wpList_append_own _ rfl _ _ 22 rfl w.heap.size 3 i0 (.int .i64 0) 1 8 Try.underlying22 hi hz0 hz1 hz2 rfl (by decide) _ _ _ rfl hrow0 ⟨b, o, none⟩ l.length capa (l.map (Value.int .i64)) rfl (by simp) hnews (by intro u hu; simp at hu; obtain ⟨x, -, rfl⟩ := hu; rfl) (by unfold maxLen; omega) (by omega) (by simp) ?_; intro v1 w1 hown1 hgrow1 _; rw [Nat.zero_add, List.nil_append] at hown1; have hB1 : Below w.heap.size w w1 := (alloc_below w _).grown hgrow1 (by simp) (fun j hj => (hrow0.lt j hj).1); clear hgrow1)
        go_ret
        exact ⟨_, rfl, by rw [E.out]; exact IsNums.of_row hown1, hB1⟩
      · have h0 : ¬ i < 0 := by omega
        go_enter Try.func24, Try.ntmps24
        go_wp2_with (at_builtin; refine wpList_append_own _ rfl _ _ 22 rfl w.heap.size 3 i0 (.int .i64 0) 1 8 Try.underlying22 hi hz0 hz1 hz2 rfl (by decide) _ _ _ rfl hrow0 ⟨b, o, none⟩ l.length capa (l.map (Value.int .i64)) rfl (by simp) hnews (by intro u hu; simp at hu; obtain ⟨x, -, rfl⟩ := hu; rfl) (by unfold maxLen; omega) (by omega) (by simp) ?_; intro v1 w1 hown1 hgrow1 _; rw [Nat.zero_add, List.nil_append] at hown1; have hB1 : Below w.heap.size w w1 := (alloc_below w _).grown hgrow1 (by simp) (fun j hj => (hrow0.lt j hj).1); clear hgrow1)
        go_ret
        exact ⟨_, rfl, by rw [E.out]; exact IsNums.of_row hown1, hB1⟩
    · have e : withL l i n = (stretchL l (max (l : List Int).length (i.toNat + 1))).set i.toNat n := by rw [withL, if_neg h]
      obtain ⟨q, rfl⟩ := Int.eq_ofNat_of_zero_le (show 0 ≤ i by omega)
      rw [Int.toNat_natCast] at e
      have E := hide e
      clear e
      have h0 : ¬ (q : Int) < 0 := by omega
      have h1 : ¬ 63 < (q : Int) := by omega
      clear h
      go_enter Try.func24, Try.ntmps24
      go_wp2_with (at_builtin; refine wpList_append_own _ rfl _ _ 22 rfl w.heap.size 3 i0 (.int .i64 0) 1 8 Try.underlying22 hi hz0 hz1 hz2 rfl (by decide) _ _ _ rfl hrow0 ⟨b, o, none⟩ l.length capa (l.map (Value.int .i64)) rfl (by simp) hnews (by intro u hu; simp at hu; obtain ⟨x, -, rfl⟩ := hu; rfl) (by unfold maxLen; omega) (by omega) (by simp) ?_; intro v1 w1 hown1 hgrow1 _; rw [Nat.zero_add, List.nil_append] at hown1; have hB1 : Below w.heap.size w w1 := (alloc_below w _).grown hgrow1 (by simp) (fun j hj => (hrow0.lt j hj).1); clear hgrow1)
      go_loopw [7] (fun v wr => ∃ k : Nat, l.length ≤ k ∧ k ≤ max l.length (q + 1) ∧ wr.ownsRow w.heap.size 3 1 v k ((stretchL l k).map (Value.int .i64)) ∧ Below w.heap.size w wr) (fun v _ => q + 1 - lenOf' v)
      case atStart => exact ⟨l.length, Nat.le_refl _, by omega, by rw [stretchL_self]; exact hown1, hB1⟩
      case round =>
        obtain ⟨k, hk1, hk2, hown, hB⟩ := hrel
        have hbs := hB.size
        by_cases hle : (k : Int) ≤ (q : Int)
        · obtain ⟨pv, cv, rfl⟩ := ownsRow_slice hown
          go_wp2_with (at_builtin; refine wpList_append_own _ rfl _ _ 22 rfl w.heap.size 3 i0 (.int .i64 0) 1 8 Try.underlying22 hi hz0 hz1 hz2 rfl (by decide) _ _ _ rfl (hown.alloc _) ⟨wr.heap.size, 0, none⟩ 1 1 [.int .i64 0] rfl rfl (cell_one_new _ _ _) (by intro u hu; simp at hu; subst hu; rfl) (by unfold maxLen; omega) (by omega) (by simp; omega) ?_; intro v2 w2 hown2 hgrow2 _)
          obtain ⟨pv2, cv2, rfl⟩ := ownsRow_slice hown2
          refine ⟨⟨k + 1, by omega, by omega, ?_, (hB.alloc hB.size _).grown hgrow2 (by simp; omega) (fun j hj => (hown.lt j hj).1)⟩, by simp [lenOf']; omega⟩
          rw [stretchL_succ l k hk1, List.map_append]
          exact hown2
        · have hkm : k = max l.length (q + 1) := by omega
          obtain ⟨k0, rfl⟩ : ∃ k0, k = k0 + 1 := ⟨k - 1, by omega⟩
          obtain ⟨gg, cv, rfl⟩ := ownsRow_succ hown
          have hc := hown.cellAt q (by omega)
          have hf := hown.frozenAt q
          have hlq : (q : Int) < (k0 : Int) + 1 := by omega
          obtain ⟨hown2, hg2⟩ := hown.stored q (.int .i64 n)
          rw [List.getElem?_map, List.getElem?_eq_getElem (by rw [stretchL_length _ _ hk1]; omega), Option.map_some] at hc
          generalize (stretchL l (k0 + 1))[q]'(by rw [stretchL_length _ _ hk1]; omega) = old at hc
          have hlt := (hown.lt gg rfl).1
          have HO := hide hown2
          replace hkm := hide hkm
          clear hown hown2 hg2
          go_wp2_with fail
          go_ret
          refine ⟨_, rfl, ?_, hB.setCell (p := ⟨gg, q, none⟩) hlt _⟩
          have := HO.out
          rw [← List.map_set] at this
          rw [E.out, ← hkm.out]
          exact IsNums.of_row this

end Go.Proofs.Ytdkpbfigjdmfpaa

/- An append of a slice of another type, of the same elements. Own work; no statement. -/
set_option linter.unusedSimpArgs false
set_option linter.unusedVariables false
namespace Go.Proofs.Ytdkpbfigjdmfpaa
open Go.RowKit Go.Shelf Go.Sort

theorem append_types {P : Program} (t u ty e : TypeId) (ht : P.underlying t = some (.slice e)) (hu : P.underlying u = some (.slice e)) (x y : Value) (w : World) :
    (Builtin.append_ #[t, u] ty #[x, y]).run P w = (Builtin.append_ #[t, t] ty #[x, y]).run P w := by
  cases x <;> simp [Builtin.append_, Sem.run_bind, run_underlying ht, run_underlying hu]

theorem wpList_append_own2 {P : Program} {ops : Array Oper} {rest : List Oper} {o : Oper} {a : Act} {Q : Exit → Act → World → Prop} (w : World) (hgd : o.guard = none) (s x : Operand) (t u : TypeId)
    (ho : o.op = .call { callee := .builtin .append, args := #[s, x], argTypes := #[t, u] })
    (base : Nat) (e : TypeId) (i : TypeInfo) (z : Value) (size bytes : Nat) (ht : P.underlying t = some (.slice e)) (hu : P.underlying u = some (.slice e)) (hi : P.info? e = some i) (hz : i.zero = some z)
    (hsize : i.size = size) (hby : i.bytes = bytes) (hzs : z.cells.size = size) (hsz : 0 < size)
    (v : Value) (n : Nat) (xs : List Value) (hs : a.eval s = v) (hown : w.ownsRow base e size v n xs)
    (ad : Addr) (m c : Nat) (news : List Value) (hx : a.eval x = .slice (some ad) m c) (hl : news.length = m * size) (hnews : ∀ j u, news[j]? = some u → w.cell? (ad.add j) = some u) (h1 : ∀ u ∈ news, u.oneCell' = true)
    (h63 : n + m ≤ maxLen) (hbytes : (n + m) * bytes ≤ 140737488355328) (hbase : base ≤ w.heap.size)
    (h : ∀ v' w', w'.ownsRow base e size v' (n + m) (xs ++ news) → w.grownBy w' v.ownBlock → wpList P ops Q rest (a.put o.dst v') w') : wpList P ops Q (o :: rest) a w := by
  refine wpList_plain hgd fun K hK => ?_
  obtain ⟨v', w', hr, h2, h3, h4⟩ := run_append_own (P := P) w base t o.type e i z size bytes ht hi hz hsize hby hzs hsz v n xs hown ad m c news hl hnews h1 h63 hbytes hbase
  rw [← append_types t u o.type e ht hu] at hr
  unfold Oper.wp execOp
  simp only [ho, resolve, invoke, builtin, Sem.run_bind, Sem.run_pure, Result.andThen_ok, List.map_toArray, List.map_cons, List.map_nil, hs, hx, hr]
  exact hK _ _ (h v' w' h2 h3)

end Go.Proofs.Ytdkpbfigjdmfpaa

/- Of which sites what was put is; how long what is seen gets. Own work; no statement. -/
set_option linter.unusedSimpArgs false
set_option linter.unusedVariables false
namespace Go.Proofs.Ytdkpbfigjdmfpaa
open Go.RowKit

theorem slotsT_snd : ∀ (p : Int) (l : List DrD), (slotsT p l).map (·.2) = l
  | _, [] => rfl
  | p, d :: l => by
    simp only [slotsT, List.map_cons]
    rw [slotsT_snd (p + 1) l]
theorem putT_site (own : Int) (s : List Int) (d : DrD) : (putT own s d).r.site = d.r.site := by
  unfold putT
  split <;> rfl
theorem admT_sites {own : Int} : ∀ (n : Nat) (s : List Int) (l : List DrD), ∀ d ∈ (admT own n s l).2.2, ∃ x ∈ l, d.r.site = x.r.site
  | 0, s, l, d, hd => by cases hd
  | n + 1, s, l, d, hd => by
    unfold admT at hd
    cases hf : l.find? (mayD own s) with
    | none => rw [hf] at hd; cases hd
    | some x =>
      rw [hf] at hd
      obtain ⟨hx, -⟩ := find_out hf
      rcases List.mem_cons.1 hd with e | hd
      · exact ⟨x, hx, by rw [e, putT_site]⟩
      · obtain ⟨y, hy, e⟩ := admT_sites n _ _ d hd
        exact ⟨y, outT_mem hf y hy, e⟩
theorem right_sites {t : TokD} {m al : List DrD} (h : RightT t m al) : ∀ d ∈ al, ∃ x ∈ t.late ++ m, d.r.site = x.r.site := by
  have e : al = (admT t.own (t.late ++ m).length t.seen (t.late ++ m)).2.2 := by
    have h1 := congrArg (List.map (fun x : Int × DrD => x.2)) h.slots
    rw [slotsT_snd] at h1
    rw [← h1]
    exact slotsT_snd _ _
  rw [e]
  exact admT_sites _ _ _
theorem adm_drOk {own : Int} : ∀ (n : Nat) (s : List Int) (l : List DrD), SeenOk s → (∀ d ∈ l, DrOk d) → ∀ d ∈ (admT own n s l).2.2, DrOk d
  | 0, s, l, _, _, d, hd => by cases hd
  | n + 1, s, l, hs, hl, d, hd => by
    unfold admT at hd
    cases hf : l.find? (mayD own s) with
    | none => rw [hf] at hd; cases hd
    | some x =>
      rw [hf] at hd
      obtain ⟨hx, hm, -⟩ := find_out hf
      rcases List.mem_cons.1 hd with e | hd
      · rw [e]
        exact DrOk.put hs (hl x hx) hm
      · exact adm_drOk n _ _ (hs.put (hl x hx) hm) (fun y hy => hl y (outT_mem hf y hy)) d hd
theorem right_ok {t : TokD} {m al : List DrD} (h : RightT t m al) (hs : SeenOk t.seen) (hl : ∀ d ∈ t.late ++ m, DrOk d) : ∀ d ∈ al, DrOk d := by
  have e : al = (admT t.own (t.late ++ m).length t.seen (t.late ++ m)).2.2 := by
    have h1 := congrArg (List.map (fun x : Int × DrD => x.2)) h.slots
    rw [slotsT_snd] at h1
    rw [← h1]
    exact slotsT_snd _ _
  rw [e]
  exact adm_drOk _ _ _ hs hl
theorem endT_length : ∀ (l : List DrD) (s : List Int), (∀ d ∈ l, d.r.site ≤ 7) → (endT s l).length ≤ max s.length 8
  | [], s, _ => by
    show s.length ≤ _
    omega
  | d :: l, s, h => by
    have h1 := endT_length l (withL s d.r.site d.r.seq) fun x hx => h x (List.mem_cons_of_mem _ hx)
    have h2 := withL_length s d.r.site d.r.seq (h d List.mem_cons_self)
    show (endT (withL s d.r.site d.r.seq) l).length ≤ _
    omega

end Go.Proofs.Ytdkpbfigjdmfpaa

/- A region that draws its order and in which S holds throughout, operation by operation. Own work; no statement. -/
set_option linter.unusedSimpArgs false
set_option linter.unusedVariables false
namespace Go.Proofs.Ytdkpbfigjdmfpaa
open Go.RowKit

section
variable {P : Program} {ops : Array Oper} {Q : Exit → Act → World → Prop} {S : World → Prop}

theorem heldA (S : World → Prop) {g : Nat} {d : Array Bool} {a : Act} {w : World} (h : wpAnyH P .any ops Q S g d a w) : wpAny P .any ops Q g d a w := wpAny_of_held _ _ _ _ h
theorem takeH (i : Nat) {oi : Oper} (v : Value) {f : Nat} {d : Array Bool} {a : Act} {w : World} (hi : ops[i]? = some oi) (hb : (Region.noSelect ops && Region.free .any ops d i && (Region.ready .any ops d).contains i) = true)
    (hy : YieldsIf P ops S oi v a) (hS : S w) (h : wpAnyH P .any ops (noPanic Q) S f (d.setIfInBounds i true) (a.put oi.dst v) w) : wpAnyH P .any ops (noPanic Q) S (f + 1) d a w := by
  simp only [Bool.and_eq_true] at hb
  exact wpAnyH_take hi hb.1.1 hb.1.2 hb.2 (fun _ _ _ h => h) hy hS h
theorem onlyH (i : Nat) {f : Nat} {d : Array Bool} {a : Act} {w : World} (hr : Region.ready .any ops d = [i]) (h : wpOp P ops Q i (fun a' w' => S w' ∧ wpAnyH P .any ops Q S f (d.setIfInBounds i true) a' w') a w) : wpAnyH P .any ops Q S (f + 1) d a w :=
  wpAnyH_all hr (by simp) fun j hj => by
    obtain rfl : j = i := by simpa using hj
    exact h
theorem endH {d : Array Bool} {a : Act} {w : World} (hr : Region.ready .any ops d = []) (h : Q .normal a w) : wpAnyH P .any ops (noPanic Q) S 0 d a w := wpAnyH_done (Q := noPanic Q) (S := S) hr (show noPanic Q .normal a w from h) 0
end

end Go.Proofs.Ytdkpbfigjdmfpaa
