/- Own work: the parts TK16 of the proof, laid together. -/
import Derived.Test.YtdkpbfigjdmfpaaPartTokenAdmit1
import Derived.Test.YtdkpbfigjdmfpaaPartTokenChain4
/- The laws' good of layer 9. Own work; no statement. -/
set_option linter.unusedSimpArgs false
set_option linter.unusedVariables false
namespace Go.Proofs.Ytdkpbfigjdmfpaa
open Go.RowKit Go.Shelf Go.Sort

/-- A draft of a site that there is. -/
structure DrG (d : DrD) : Prop where
  site : 0 ≤ d.r.site ∧ d.r.site ≤ 7
  dep : checkL d.r.dep 8 = 0
  seq : 0 ≤ d.r.seq ∧ d.r.seq ≤ 1048576
/-- What good lets through. -/
structure GoodT (t : TokD) (l : List DrD) : Prop where
  late : fewD t.late = true
  more : fewD l = true
  seen : t.seen.length ≤ 70
  check : checkT t = 0
  next : t.next ≤ 1073741824
  all : ∀ d ∈ t.late ++ l, DrG d
theorem fewD_len {l : List DrD} (h : fewD l = true) : l.length ≤ 40 := by
  unfold fewD at h
  simp only [Bool.and_eq_true, decide_eq_true_eq] at h
  exact h.1
theorem fewD_dep {l : List DrD} (h : fewD l = true) {d : DrD} (hd : d ∈ l) : d.r.dep.length ≤ 70 := by
  unfold fewD at h
  simp only [Bool.and_eq_true, List.all_eq_true] at h
  have := h.2 d hd
  unfold fewR at this
  exact (of_decide_eq_true this).1

theorem cells5T {W : World} {b : Nat} {x0 x1 x2 x3 x4 : Value} {t : TypeId} (h : W.heap[b]? = some (.cells #[x0, x1, x2, x3, x4] t (0, 0))) :
    W.cell? ⟨b, 0, none⟩ = some x0 ∧ W.cell? ⟨b, 1, none⟩ = some x1 ∧ W.cell? ⟨b, 2, none⟩ = some x2 ∧ W.cell? ⟨b, 3, none⟩ = some x3 ∧ W.cell? ⟨b, 4, none⟩ = some x4 := by
  simp [World.cell?, h]
theorem rdD_of_row {w : World} {B : Nat} {e : TypeId} {v : Value} {l : List Dv} (h : w.ownsRow B e 6 v l.length (l.flatMap Dv.cells)) : RdD w v l := by
  rcases h.2 with ⟨rfl, h0⟩ | ⟨g, cap, cur, rfl, hb, hg, hnc, hcm, hcs, ht⟩
  · obtain rfl : l = [] := List.eq_nil_of_length_eq_zero h0
    exact ⟨none, 0, rfl, Nat.le_refl _, fun _ => rfl, fun t ht => absurd ht (by simp)⟩
  · exact ⟨some ⟨g, 0, none⟩, cap, rfl, hnc, fun e => (by cases e), fun t ht' => ⟨g, 0, rfl, fun j hj => by rw [Nat.zero_add, h.cellAt (t * 6 + j) (by omega), flat6 l t j ht' hj]⟩⟩

/-- What good answers. -/
def GoodAns (t : TokD) (l : List DrD) (w : World) (e : Ending) (w' : World) : Prop := ∃ c : Bool, e = .returned (.bool c) ∧ (c = true → GoodT t l) ∧ RowKit.Below w.heap.size w w'
theorem GoodAns.no {t : TokD} {l : List DrD} {w w' : World} {v : Value} (h : RowKit.Below w.heap.size w w') (hv : v = .bool false) : GoodAns t l w (.returned v) w' := ⟨false, by rw [hv], fun h => (by cases h), h⟩
theorem GoodAns.yes {t : TokD} {l : List DrD} {w w' : World} {v : Value} (h : RowKit.Below w.heap.size w w') (hg : GoodT t l) (hv : v = .bool true) : GoodAns t l w (.returned v) w' := ⟨true, by rw [hv], fun _ => hg, h⟩

set_option maxHeartbeats 8000000 in
set_option maxRecDepth 100000 in
theorem good_calls (vt vl : Value) (t : TokD) (l : List DrD) (w : World) (ht : IsTok w vt t) (hl : IsDrs w vl l) :
    Calls Try.prog 13 #[vt, vl] w (GoodAns t l w) := by
  obtain ⟨i0, hi0, hz0, hz1, hz2⟩ := info_parts Try.info41
  have hG : ∀ (h1 : fewD t.late = true) (h2 : fewD l = true) (h3 : t.seen.length ≤ 70) (h4 : checkT t = 0) (h5 : t.next ≤ 1073741824) (h6 : ∀ d ∈ t.late ++ l, DrG d), GoodT t l := fun h1 h2 h3 h4 h5 h6 => ⟨h1, h2, h3, h4, h5, h6⟩
  have HG := hide hG
  clear hG
  obtain ⟨own, next, seen, late⟩ := t
  obtain ⟨sa, sc, la, lc, rfl, hn, hlate⟩ := ht
  dsimp only at *
  obtain ⟨va, vc, rfl⟩ := hl.form
  obtain ⟨W0, hW0, hsz, hB0, h0⟩ := new1T w #[.int .i64 own, .int .i64 next, .slice sa seen.length sc, .slice la late.length lc] 26
  have C1 : ∀ c, fewD late = c → Hid (∀ V, RowKit.Below w.heap.size w V → Calls Try.prog 9 #[.slice la late.length lc] V fun e w' => e = .returned (.bool c) ∧ RowKit.Below V.heap.size V w') := fun c h => hide fun V hV => h ▸ few9_calls _ late V (hlate.below hV)
  have C2 : ∀ c, fewD l = c → Hid (∀ V, RowKit.Below w.heap.size w V → Calls Try.prog 9 #[.slice va l.length vc] V fun e w' => e = .returned (.bool c) ∧ RowKit.Below V.heap.size V w') := fun c h => hide fun V hV => h ▸ few9_calls _ l V (hl.below hV)
  have C3 : late.length ≤ 40 → Hid (∀ V, RowKit.Below w.heap.size w V → Calls Try.prog 12 #[.agg #[.int .i64 own, .int .i64 next, .slice sa seen.length sc, .slice la late.length lc]] V fun e w' => ∃ v', e = .returned v' ∧ IsTok w' v' ⟨own, next, seen, late⟩ ∧ RowKit.Below V.heap.size V w') := fun h => hide fun V hV => ofTok_calls _ ⟨own, next, seen, late⟩ V ⟨_, _, _, _, rfl, hn.below hV, hlate.below hV⟩ (by dsimp only; omega)
  have C4 : seen.length ≤ 70 → ∀ c, checkT ⟨own, next, seen, late⟩ = c → Hid (∀ V v', IsTok V v' ⟨own, next, seen, late⟩ → Calls Try.prog 11 #[v'] V fun e w' => e = .returned (.int .i64 c) ∧ RowKit.Below V.heap.size V w') := fun h c hc => hide fun V v' hv => hc ▸ refCheckToken_calls v' _ V hv (by dsimp only; omega)
  obtain ⟨xs, hxs, hxr, hxn⟩ := hlate.rd
  obtain ⟨ys, hys, hyr, hyn⟩ := hl.rd
  have HW := hide hW0
  have HB := hide hB0
  have HX := hide h0
  obtain ⟨x0, x1, x2, x3, -⟩ := cells4T h0
  have HZ := hide hsz
  clear hW0 hB0 h0 hsz hn hlate hl
  cases hf1 : fewD late with
  | false =>
    replace C1 := C1 _ hf1
    clear C2 C3 C4
    go_enter Try.func13, Try.ntmps13
    go_upto_region 1 with fail
    rw [HW.out]
    go_wp2_with (go_at_call 9; refine (C1.out _ HB.out).mono ?_; rintro e w2 ⟨rfl, hb2⟩; replace HB := hide (HB.out.trans (hb2.mono HB.out.size)))
    go_ret
    exact GoodAns.no HB.out rfl
  | true =>
    replace C1 := C1 _ hf1
    cases hf2 : fewD l with
    | false =>
      replace C2 := C2 _ hf2
      clear C3 C4
      go_enter Try.func13, Try.ntmps13
      go_upto_region 1 with fail
      rw [HW.out]
      go_wp2_with (first | (go_at_call 9; refine (C1.out _ HB.out).mono ?_; clear C1; rintro e w2 ⟨rfl, hb2⟩; replace HB := hide (HB.out.trans (hb2.mono HB.out.size)); replace HX := hide (keepB HX.out hb2); clear hb2 x0 x1 x2 x3; obtain ⟨x0, x1, x2, x3, -⟩ := cells4T HX.out) | (go_at_call 9; refine (C2.out _ HB.out).mono ?_; clear C2; rintro e w2 ⟨rfl, hb2⟩; replace HB := hide (HB.out.trans (hb2.mono HB.out.size)); replace HX := hide (keepB HX.out hb2); clear hb2 x0 x1 x2 x3; obtain ⟨x0, x1, x2, x3, -⟩ := cells4T HX.out))
      go_ret
      exact GoodAns.no HB.out rfl
    | true =>
      replace C2 := C2 _ hf2
      have hl1 := fewD_len hf1
      have hl2 := fewD_len hf2
      replace C3 := C3 hl1
      by_cases hs : 70 < (seen.length : Int)
      · clear C3 C4
        go_enter Try.func13, Try.ntmps13
        go_upto_region 1 with fail
        rw [HW.out]
        go_wp2_with (first | (go_at_call 9; refine (C1.out _ HB.out).mono ?_; clear C1; rintro e w2 ⟨rfl, hb2⟩; replace HB := hide (HB.out.trans (hb2.mono HB.out.size)); replace HX := hide (keepB HX.out hb2); clear hb2 x0 x1 x2 x3; obtain ⟨x0, x1, x2, x3, -⟩ := cells4T HX.out) | (go_at_call 9; refine (C2.out _ HB.out).mono ?_; clear C2; rintro e w2 ⟨rfl, hb2⟩; replace HB := hide (HB.out.trans (hb2.mono HB.out.size)); replace HX := hide (keepB HX.out hb2); clear hb2 x0 x1 x2 x3; obtain ⟨x0, x1, x2, x3, -⟩ := cells4T HX.out))
        go_ret
        exact GoodAns.no HB.out rfl
      obtain ⟨c, hc⟩ : ∃ c, checkT ⟨own, next, seen, late⟩ = c := ⟨_, rfl⟩
      replace C4 := C4 (by omega) c hc
      by_cases hc0 : c = 0
      · subst hc0
        by_cases hnx : 1073741824 < next
        · go_enter Try.func13, Try.ntmps13
          go_upto_region 1 with fail
          rw [HW.out]
          go_wp2_with (first | (go_at_call 9; refine (C1.out _ HB.out).mono ?_; clear C1; rintro e w2 ⟨rfl, hb2⟩; replace HB := hide (HB.out.trans (hb2.mono HB.out.size)); replace HX := hide (keepB HX.out hb2); clear hb2 x0 x1 x2 x3; obtain ⟨x0, x1, x2, x3, -⟩ := cells4T HX.out) | (go_at_call 9; refine (C2.out _ HB.out).mono ?_; clear C2; rintro e w2 ⟨rfl, hb2⟩; replace HB := hide (HB.out.trans (hb2.mono HB.out.size)); replace HX := hide (keepB HX.out hb2); clear hb2 x0 x1 x2 x3; obtain ⟨x0, x1, x2, x3, -⟩ := cells4T HX.out) | (go_at_call 12; refine (C3.out _ HB.out).mono ?_; rintro e w2 ⟨v', rfl, htk, hb2⟩; have Htk := hide htk; obtain ⟨ta, tc, tla, tlc, rfl, -, -⟩ := htk; replace HB := hide (HB.out.trans (hb2.mono HB.out.size)); replace HX := hide (keepB HX.out hb2); clear hb2 x0 x1 x2 x3; obtain ⟨x0, x1, x2, x3, -⟩ := cells4T HX.out) | (go_at_call 11; refine (C4.out _ _ Htk.out).mono ?_; rintro e w2 ⟨rfl, hb2⟩; replace HB := hide (HB.out.trans (hb2.mono HB.out.size)); replace HX := hide (keepB HX.out hb2); clear hb2 x0 x1 x2 x3; obtain ⟨x0, x1, x2, x3, -⟩ := cells4T HX.out))
          go_ret
          exact GoodAns.no HB.out rfl
        · go_enter Try.func13, Try.ntmps13
          go_upto_region 1 with fail
          rw [HW.out]
          go_upto_region 3 with (first | (go_at_call 9; refine (C1.out _ HB.out).mono ?_; clear C1; rintro e w2 ⟨rfl, hb2⟩; replace HB := hide (HB.out.trans (hb2.mono HB.out.size)); replace HX := hide (keepB HX.out hb2); clear hb2 x0 x1 x2 x3; obtain ⟨x0, x1, x2, x3, -⟩ := cells4T HX.out) | (go_at_call 9; refine (C2.out _ HB.out).mono ?_; clear C2; rintro e w2 ⟨rfl, hb2⟩; replace HB := hide (HB.out.trans (hb2.mono HB.out.size)); replace HX := hide (keepB HX.out hb2); clear hb2 x0 x1 x2 x3; obtain ⟨x0, x1, x2, x3, -⟩ := cells4T HX.out) | (go_at_call 12; refine (C3.out _ HB.out).mono ?_; rintro e w2 ⟨v', rfl, htk, hb2⟩; have Htk := hide htk; obtain ⟨ta, tc, tla, tlc, rfl, -, -⟩ := htk; replace HB := hide (HB.out.trans (hb2.mono HB.out.size)); replace HX := hide (keepB HX.out hb2); clear hb2 x0 x1 x2 x3; obtain ⟨x0, x1, x2, x3, -⟩ := cells4T HX.out) | (go_at_call 11; refine (C4.out _ _ Htk.out).mono ?_; rintro e w2 ⟨rfl, hb2⟩; replace HB := hide (HB.out.trans (hb2.mono HB.out.size)); replace HX := hide (keepB HX.out hb2); clear hb2 x0 x1 x2 x3; obtain ⟨x0, x1, x2, x3, -⟩ := cells4T HX.out))
          have hzw := ltB HX.out
          have hlit : (w2.alloc (.cells #[] 41)).ownsRow (w.heap.size + 1) 41 6 (.slice (some ⟨w2.heap.size, 0, none⟩) 0 0) 0 [] := World.ownsRow_lit w2 #[] 0 (by omega) (by unfold maxLen; omega) rfl
          have hbz := box_below w2 (.cells #[] 41)
          have HS1 := hide (hxr.below (HB.out.trans (hbz.mono HB.out.size)))
          have hx1 : ∀ q ∈ xs, ∃ a n c, q.vd = .slice a n c := fun q hq => let ⟨a, c, e⟩ := (hxn q hq).form; ⟨a, _, c, e⟩
          have hy1 : ∀ q ∈ ys, ∃ a n c, q.vd = .slice a n c := fun q hq => let ⟨a, c, e⟩ := (hyn q hq).form; ⟨a, _, c, e⟩
          have hxL : xs.length = late.length := by rw [← hxs, List.length_map]
          have hyL : ys.length = l.length := by rw [← hys, List.length_map]
          have hx40 : xs.length ≤ 40 := by omega
          have hy40 : ys.length ≤ 40 := by omega
          replace HB := hide (HB.out.trans (hbz.mono HB.out.size))
          have hza : (w2.alloc (.cells #[] 41)).heap.size = w2.heap.size + 1 := by simp
          have Hx1 := hide hx1
          have Hy1 := hide hy1
          have Hyr := hide hyr
          have Hlit := hide hlit
          have hbase : w.heap.size + 1 ≤ (w2.alloc (.cells #[] 41)).heap.size := by omega
          have Hbase := hide hbase
          have Hzz := hide hxL
          have Hzy := hide hyL
          clear hlit hbz hx1 hy1 hxr hyr hza hbase hxL hyL
          go_upto_region 4 with (first | (at_builtin; refine wpList_append_srcT rfl _ _ 24 rfl (w.heap.size + 1) 41 i0 _ 80 Try.underlying24 hi0 hz0 hz1 hz2 rfl _ _ _ rfl Hlit.out _ xs rfl HS1.out Hx1.out (by unfold maxLen; omega) (by omega) Hbase.out ?_; intro v5 w5 hown5 hgrow5; rw [Nat.zero_add, List.nil_append] at hown5; clear HS1; have HB5 := hide (HB.out.grown hgrow5 HB.out.size (fun k hk => by have := (Hlit.out.lt k hk).1; omega)); have HS2 := hide (Hyr.out.below HB5.out); have hbs5 : w.heap.size + 1 ≤ w5.heap.size := Nat.le_trans Hbase.out hgrow5.size; have Hown5 := hide hown5; obtain ⟨a5, c5, rfl⟩ := ownsRow_slice hown5; clear hgrow5 hown5) | (at_builtin; refine wpList_append_srcT rfl _ _ 24 rfl (w.heap.size + 1) 41 i0 _ 80 Try.underlying24 hi0 hz0 hz1 hz2 rfl _ _ _ rfl Hown5.out _ ys rfl HS2.out Hy1.out (by unfold maxLen; omega) (by omega) hbs5 ?_; intro v6 w6 hown6 hgrow6; clear HS2; have HB6 := hide (HB5.out.grown hgrow6 HB5.out.size (fun k hk => by have := (Hown5.out.lt k hk).1; omega)); clear hgrow6))
          obtain ⟨zs, hzs⟩ : ∃ zs, xs ++ ys = zs := ⟨_, rfl⟩
          have hzL : xs.length + ys.length = zs.length := by rw [← hzs, List.length_append]
          rw [hzL, ← List.flatMap_append, hzs] at hown6
          have hzm : zs.map (·.d) = late ++ l := by rw [← hzs, List.map_append, hxs, hys]
          have hzn : ∀ q ∈ zs, IsNums .i64 w q.vd q.d.r.dep := fun q hq => by
            rw [← hzs] at hq
            exact (List.mem_append.1 hq).elim (hxn q) (hyn q)
          have hzd : ∀ q ∈ zs, q.d.r.dep.length ≤ 70 := fun q hq => by
            have : q.d ∈ late ++ l := by rw [← hzm]; exact List.mem_map.2 ⟨q, hq, rfl⟩
            exact (List.mem_append.1 this).elim (fewD_dep hf1) (fewD_dep hf2)
          have hz80 : zs.length ≤ 80 := by omega
          obtain ⟨a6, c6, he, -, -, hat⟩ := rdD_of_row hown6
          subst he
          have Hat := hide hat
          have Hzm := hide hzm
          have Hzn := hide hzn
          have Hzd := hide hzd
          clear hzs hzL hzm hzn hzd hat hown6 Hown5 HB5 hbs5 Hlit Hbase Hx1 Hy1 Hyr C3 C4 HX HB x0 x1 x2 x3 hxn hyn hxs hys
          go_wp2_with fail
          go_loopw [6] (fun i wr => ∃ k : Nat, k ≤ zs.length ∧ i = .int .i64 (k : Int) ∧ (∀ j (h : j < zs.length), j < k → DrG zs[j].d) ∧ RowKit.Below w.heap.size w wr ∧ RowKit.Below w6.heap.size w6 wr) (fun i _ => zs.length - (intOf i).toNat)
          case atStart => exact ⟨0, Nat.zero_le _, rfl, fun j _ h => by omega, HB6.out, RowKit.Below.refl _ _⟩
          case round =>
            obtain ⟨k, hk, rfl, hall, hb, hb6⟩ := hrel
            have Hall := hide hall
            have Hb := hide hb
            have Hb6 := hide hb6
            clear hall hb hb6
            by_cases h1 : k < zs.length
            · have h1I : (k : Int) < (zs.length : Int) := by omega
              obtain ⟨b, o, rfl, hc⟩ := Hat.out k h1
              have hnk := Hzn.out zs[k] (List.getElem_mem h1)
              have hdk := Hzd.out zs[k] (List.getElem_mem h1)
              have hGk : ∀ (g : DrG zs[k].d), ∀ j (h : j < zs.length), j < k + 1 → DrG zs[j].d := fun g j hj hjk => by
                by_cases e : j = k
                · subst e
                  exact g
                · exact Hall.out j hj (by omega)
              obtain ⟨⟨⟨ticket, ⟨site, seq, dep, key, val⟩⟩, vd⟩, hx⟩ : ∃ x, zs[k] = x := ⟨_, rfl⟩
              rw [hx] at hc hnk hdk hGk
              dsimp only at hnk hdk hGk
              have HGk := hide hGk
              obtain ⟨da, dc, rfl⟩ := hnk.form
              have hblt : b < w6.heap.size := by
                have := hc 0 (by omega)
                exact World.block_lt_of_cell? w6 _ (this.trans (by simp [Dv.cells]; rfl))
              have cc : ∀ j, j < 6 → wr.cell? ⟨b, o + k * 6 + j, none⟩ = _ := fun j hj => (Hb6.out.cell (p := ⟨b, o + k * 6 + j, none⟩) hblt).trans (hc j hj)
              have c1 := cc 1 (by omega)
              have c2 := cc 2 (by omega)
              have c3 := cc 3 (by omega)
              have c4 := cc 4 (by omega)
              have c5' := cc 5 (by omega)
              simp only [Dv.cells, List.getElem?_cons_zero, List.getElem?_cons_succ] at c1 c2 c3 c4 c5'
              have hbx := box_below wr (.cells #[.int .i64 site, .int .i64 seq, .slice da dep.length dc, .string key, .string val] 39)
              have hr := World.alloc_heap_new wr (.cells #[.int .i64 site, .int .i64 seq, .slice da dep.length dc, .string key, .string val] 39)
              have HB8 := hide (Hb.out.trans (hbx.mono Hb.out.size))
              have HB68 := hide (Hb6.out.trans (hbx.mono Hb6.out.size))
              obtain ⟨c8, hc8⟩ : ∃ c8, checkL dep 8 = c8 := ⟨_, rfl⟩
              have CC := hide (refCheck_calls _ dep 8 _ (hnk.below HB8.out) (by omega))
              rw [hc8] at CC
              have Hr := hide hr
              clear hx hc cc hnk hblt hbx hr hGk
              go_upto_region 8 with fail
              clear c1 c2 c3 c4 c5'
              generalize wr.alloc (.cells #[.int .i64 site, .int .i64 seq, .slice da dep.length dc, .string key, .string val] 39) = W8 at *
              obtain ⟨r0, r1, r2, -, -⟩ := cells5T Hr.out
              by_cases g0 : site < 0
              · go_wp2_with fail
                go_ret
                exact GoodAns.no HB8.out rfl
              by_cases g1 : 8 ≤ site
              · go_wp2_with fail
                go_ret
                exact GoodAns.no HB8.out rfl
              by_cases g2 : c8 = 0
              · subst g2
                by_cases g3 : seq < 0
                · go_wp2_with (go_at_call 31; refine CC.out.mono ?_; rintro e w9 ⟨rfl, rfl⟩)
                  go_ret
                  exact GoodAns.no HB8.out rfl
                by_cases g4 : 1048576 < seq
                · go_wp2_with (go_at_call 31; refine CC.out.mono ?_; rintro e w9 ⟨rfl, rfl⟩)
                  go_ret
                  exact GoodAns.no HB8.out rfl
                go_wp2_with (go_at_call 31; refine CC.out.mono ?_; rintro e w9 ⟨rfl, rfl⟩)
                exact ⟨⟨k + 1, by omega, by go_num, HGk.out ⟨by dsimp only; omega, hc8, by dsimp only; omega⟩, HB8.out, HB68.out⟩, by simp [intOf]; omega⟩
              · have g2b : (c8 != 0) = true := by simpa using g2
                go_wp2_with (go_at_call 31; refine CC.out.mono ?_; rintro e w9 ⟨rfl, rfl⟩)
                go_ret
                exact GoodAns.no HB8.out rfl
            · have hkk : k = zs.length := by omega
              subst hkk
              go_wp2_with fail
              go_ret
              refine GoodAns.yes Hb.out (HG.out hf1 hf2 (by omega) hc (by omega) fun d hd => ?_) rfl
              rw [← Hzm.out] at hd
              obtain ⟨q, hq, rfl⟩ := List.mem_map.1 hd
              obtain ⟨j, hj, rfl⟩ := List.mem_iff_getElem.1 hq
              exact Hall.out j hj (by omega)
      · have hcb : (c != 0) = true := by simpa using hc0
        clear hc0
        go_enter Try.func13, Try.ntmps13
        go_upto_region 1 with fail
        rw [HW.out]
        go_wp2_with (first | (go_at_call 9; refine (C1.out _ HB.out).mono ?_; clear C1; rintro e w2 ⟨rfl, hb2⟩; replace HB := hide (HB.out.trans (hb2.mono HB.out.size)); replace HX := hide (keepB HX.out hb2); clear hb2 x0 x1 x2 x3; obtain ⟨x0, x1, x2, x3, -⟩ := cells4T HX.out) | (go_at_call 9; refine (C2.out _ HB.out).mono ?_; clear C2; rintro e w2 ⟨rfl, hb2⟩; replace HB := hide (HB.out.trans (hb2.mono HB.out.size)); replace HX := hide (keepB HX.out hb2); clear hb2 x0 x1 x2 x3; obtain ⟨x0, x1, x2, x3, -⟩ := cells4T HX.out) | (go_at_call 12; refine (C3.out _ HB.out).mono ?_; rintro e w2 ⟨v', rfl, htk, hb2⟩; have Htk := hide htk; obtain ⟨ta, tc, tla, tlc, rfl, -, -⟩ := htk; replace HB := hide (HB.out.trans (hb2.mono HB.out.size)); replace HX := hide (keepB HX.out hb2); clear hb2 x0 x1 x2 x3; obtain ⟨x0, x1, x2, x3, -⟩ := cells4T HX.out) | (go_at_call 11; refine (C4.out _ _ Htk.out).mono ?_; rintro e w2 ⟨rfl, hb2⟩; replace HB := hide (HB.out.trans (hb2.mono HB.out.size)); replace HX := hide (keepB HX.out hb2); clear hb2 x0 x1 x2 x3; obtain ⟨x0, x1, x2, x3, -⟩ := cells4T HX.out))
        go_ret
        exact GoodAns.no HB.out rfl

end Go.Proofs.Ytdkpbfigjdmfpaa
