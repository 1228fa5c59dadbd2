/- Own work: the parts TK26 of the proof, laid together. -/
import Derived.Test.YtdkpbfigjdmfpaaPartTokenAdmit3
/- The reference's Admit of layer 9. Own work; no statement. -/
set_option linter.unusedSimpArgs false
set_option linter.unusedVariables false
namespace Go.Proofs.Ytdkpbfigjdmfpaa
open Go.RowKit Go.Shelf Go.Sort

def admMeas (l i : Value) : Nat := lenOf' l * 2097152 + (lenOf' l - (intOf i).toNat)

/-- One more of what is left is looked at. -/
theorem late_step {own : Int} {s : List Int} {L ol : List DrD} {k : Nat} (hk : k < L.length) (h : ol ++ lateT own s (L.take k) (L.drop k) = lateT own s [] L) :
    (goneT own s (L.take k) L[k] = true → ol ++ lateT own s (L.take (k + 1)) (L.drop (k + 1)) = lateT own s [] L) ∧ (goneT own s (L.take k) L[k] = false → (ol ++ [L[k]]) ++ lateT own s (L.take (k + 1)) (L.drop (k + 1)) = lateT own s [] L) := by
  have e : lateT own s (L.take k) (L.drop k) = if goneT own s (L.take k) L[k] then lateT own s (L.take (k + 1)) (L.drop (k + 1)) else L[k] :: lateT own s (L.take (k + 1)) (L.drop (k + 1)) := by
    rw [List.drop_eq_getElem_cons hk, lateT, List.take_succ_eq_append_getElem hk]
  rw [e] at h
  constructor
  · intro g
    rw [g] at h
    simpa using h
  · intro g
    rw [g] at h
    simpa using h

set_option maxHeartbeats 8000000 in
set_option maxRecDepth 100000 in
theorem refAdmit_calls (own next : Int) (seen : List Int) (sv lt vl : Value) (xs ys : List Dv) (w0 w : World) (h0w : RowKit.Below w0.heap.size w0 w) (hn : IsNums .i64 w0 sv seen) (hxr : RdD w lt xs) (hyr : RdD w vl ys)
    (hxn : ∀ q ∈ xs, IsNums .i64 w0 q.vd q.d.r.dep) (hyn : ∀ q ∈ ys, IsNums .i64 w0 q.vd q.d.r.dep) (hs : SeenOk seen) (hok : ∀ d ∈ xs.map (·.d) ++ ys.map (·.d), DrOk d) (hlen : xs.length + ys.length ≤ 1048576) (hx : 0 ≤ next ∧ next ≤ 1099511627776) :
    Calls Try.prog 18 #[.agg #[.int .i64 own, .int .i64 next, sv, lt], vl] w fun e w' => ∃ vt' vs, e = .returned (.tuple #[vt', vs]) ∧ TokS (fun k => k < w0.heap.size ∨ w.heap.size ≤ k) w' vt' (admitT ⟨own, next, seen, xs.map (·.d)⟩ (ys.map (·.d))).1 ∧
      SlsS (fun k => k < w0.heap.size ∨ w.heap.size ≤ k) w' vs (admitT ⟨own, next, seen, xs.map (·.d)⟩ (ys.map (·.d))).2 ∧ RowKit.Below w.heap.size w w' := by
  obtain ⟨i0, hi0, hz0, hz1, hz2⟩ := info_parts Try.info46
  obtain ⟨j0, hj0, hj1, hj2, hj3⟩ := info_parts Try.info80
  have hxv : ∀ q ∈ xs, ∃ a n c, q.vd = .slice a n c := fun q hq => let ⟨a, c, e⟩ := (hxn q hq).form; ⟨a, _, c, e⟩
  have hyv : ∀ q ∈ ys, ∃ a n c, q.vd = .slice a n c := fun q hq => let ⟨a, c, e⟩ := (hyn q hq).form; ⟨a, _, c, e⟩
  obtain ⟨sa, sc, rfl⟩ := hn.form
  obtain ⟨la, lc, rfl, -⟩ := id hxr
  obtain ⟨va, vc, rfl, -⟩ := id hyr
  obtain ⟨W0, hW0, hsz, hB0, h0, h1⟩ := new2T w #[.int .i64 own, .int .i64 next, .slice sa seen.length sc, .slice la xs.length lc] #[.int .i64 0, .int .i64 0, .slice none 0 0, .slice none 0 0] 34 34
  have hlit : (W0.alloc (.cells #[] 46)).ownsRow (w.heap.size + 2) 46 6 (.slice (some ⟨W0.heap.size, 0, none⟩) 0 0) 0 [] := World.ownsRow_lit W0 #[] 0 (by omega) (by unfold maxLen; omega) rfl
  have hbz := box_below W0 (.cells #[] 46)
  have hB1 := hB0.trans (hbz.mono hB0.size)
  have HS1 := hide (hxr.below hB1)
  have Hlate : Hid (IsDrs w (.slice la (xs.map (·.d)).length lc) (xs.map (·.d))) := hide (by rw [List.length_map]; exact hxr.drs fun q hq => (hxn q hq).below h0w)
  have Hyr := hide hyr
  have Hx1 := hide hxv
  have Hy1 := hide hyv
  have Hxn := hide hxn
  have Hyn := hide hyn
  have Hok := hide hok
  have Hs := hide hs
  have Hlit := hide hlit
  have HB1 := hide hB1
  have H0 := hide (keepB h0 hbz)
  have H1 := hide (keepB h1 hbz)
  have HW := hide hW0
  have H0w := hide h0w
  have Hn := hide hn
  have Hbase : Hid (w.heap.size + 2 ≤ (W0.alloc (.cells #[] 46)).heap.size) := hide (by simp; omega)
  have hlx : xs.length ≤ 1048576 := by omega
  have hly : ys.length ≤ 1048576 := by omega
  obtain ⟨x0, x1, x2, x3, -⟩ := cells4T (keepB h0 hbz)
  have Hsz := hide hsz
  clear hxr hyr hxv hyv hxn hyn hok hs hlit hB1 hB0 h0 h1 hbz hW0 h0w hn hsz
  go_enter Try.func18, Try.ntmps18
  go_upto_region 1 with fail
  rw [HW.out]
  clear HW
  go_upto_region 2 with (first | (at_builtin; refine wpList_append_srcT rfl _ _ 32 rfl (w.heap.size + 2) 46 i0 _ 80 Try.underlying32 hi0 hz0 hz1 hz2 rfl _ _ _ rfl Hlit.out _ xs rfl HS1.out Hx1.out (by unfold maxLen; omega) (by omega) Hbase.out ?_; intro v5 w5 hown5 hgrow5; rw [Nat.zero_add, List.nil_append] at hown5; clear HS1; have HB5 := hide (HB1.out.grown hgrow5 HB1.out.size (fun k hk => by have := (Hlit.out.lt k hk).1; omega)); have HS2 := hide (Hyr.out.below HB5.out); have hbs5 : w.heap.size + 2 ≤ w5.heap.size := Nat.le_trans Hbase.out hgrow5.size; have Hgr5 := hide hgrow5; have Hown5 := hide hown5; obtain ⟨a5, c5, rfl⟩ := ownsRow_slice hown5; clear hgrow5 hown5) | (at_builtin; refine wpList_append_srcT rfl _ _ 32 rfl (w.heap.size + 2) 46 i0 _ 80 Try.underlying32 hi0 hz0 hz1 hz2 rfl _ _ _ rfl Hown5.out _ ys rfl HS2.out Hy1.out (by unfold maxLen; omega) (by omega) hbs5 ?_; intro v6 w6 hown6 hgrow6; clear HS2; have HB6 := hide (HB5.out.grown hgrow6 HB5.out.size (fun k hk => by have := (Hown5.out.lt k hk).1; omega))))
  obtain ⟨zs, hzs⟩ : ∃ zs, xs ++ ys = zs := ⟨_, rfl⟩
  have hzL : xs.length + ys.length = zs.length := by rw [← hzs, List.length_append]
  rw [hzL, ← List.flatMap_append, hzs] at hown6
  have hzm : zs.map (·.d) = xs.map (·.d) ++ ys.map (·.d) := by rw [← hzs, List.map_append]
  have hzn : ∀ q ∈ zs, IsNums .i64 w0 q.vd q.d.r.dep := fun q hq => by
    rw [← hzs] at hq
    exact (List.mem_append.1 hq).elim (Hxn.out q) (Hyn.out q)
  have hT5 := (Hgr5.out.block _ (ltB H0.out) (fun e => by have := (Hlit.out.lt _ e.symm).1; omega)).trans H0.out
  have hR5 := (Hgr5.out.block _ (ltB H1.out) (fun e => by have := (Hlit.out.lt _ e.symm).1; omega)).trans H1.out
  have hT6 := (hgrow6.block _ (ltB hT5) (fun e => by have := (Hown5.out.lt _ e.symm).1; omega)).trans hT5
  have hR6 := (hgrow6.block _ (ltB hR5) (fun e => by have := (Hown5.out.lt _ e.symm).1; omega)).trans hR5
  have hst0 : RAdm w0 w w6 own next (.slice sa seen.length sc) seen (.slice la xs.length lc) v6 zs (.slice none 0 0) [] :=
    ⟨HB6.out, Nat.le_trans hbs5 hgrow6.size, hT6, hR6, .inl Hn.out, hown6, hzn, World.ownsRow_nil _ _ _ _, fun x h => by cases h⟩
  have hp0 : AdmP own next seen (zs.map (·.d)) next seen (zs.map (·.d)) ([].map Sv.dat) [] := AdmP.start Hs.out (by rw [hzm]; exact Hok.out)
  have hzlen : zs.length ≤ 1048576 := by omega
  have Hst0 := hide hst0
  have Hp0 := hide hp0
  have Hzm := hide hzm
  have HzL := hide hzL
  clear hzs hzL hzm hzn hT5 hR5 hT6 hR6 hst0 hp0 hgrow6 hown6 Hgr5 Hown5 HB5 HB6 hbs5 Hlit HB1 H0 H1 Hbase x0 x1 x2 x3 Hyr Hx1 Hy1 Hxn Hyn Hok Hs
  go_wp2_with fail
  go_loopw [6, 7, 8] (fun lv tv i wr => ∃ (ql : List Dv) (sl : List Sv) (s : List Int) (nx : Int) (sv : Value) (put : List DrD) (k : Nat), k ≤ ql.length ∧ ql.length ≤ 1048576 ∧ i = .int .i64 (k : Int) ∧ RAdm w0 w wr own nx sv s (.slice la xs.length lc) lv ql tv sl ∧ AdmP own next seen (zs.map (·.d)) nx s (ql.map (·.d)) (sl.map Sv.dat) put ∧ ∀ j (hj : j < ql.length), j < k → mayD own s ql[j].d = false) (fun lv _ i _ => admMeas lv i)
  case atStart => exact ⟨zs, [], seen, next, _, [], 0, Nat.zero_le _, hzlen, rfl, Hst0.out, Hp0.out, fun j _ h => by omega⟩
  case round =>
    clear Hst0 Hp0
    obtain ⟨ql, sl, s, nx, sv', put, k, hk, hql, rfl, hst, hp, hno⟩ := hrel
    obtain ⟨va', vc', rfl⟩ := hst.form
    obtain ⟨lva, lvc, rfl⟩ := ownsRow_slice hst.left
    obtain ⟨ta, tc, rfl⟩ := ownsRow_slice hst.slots
    have Hst := hide hst
    have Hp := hide hp
    have Hno := hide hno
    clear hst hp hno
    by_cases h1 : k < ql.length
    · have h1I : (k : Int) < (ql.length : Int) := by omega
      have hrd := rdD_of_row Hst.out.left
      obtain ⟨b, o, cap, he, hcap⟩ := hrd.at0 (by omega)
      simp only [Value.slice.injEq, true_and] at he
      obtain ⟨rfl, rfl⟩ := he
      obtain ⟨d0, d1, d2, d3, d4, d5⟩ := hrd.six k h1
      have hnk := Hst.out.nums ql[k] (List.getElem_mem h1)
      have hdk := Hp.out.ok ql[k].d (List.mem_map.2 ⟨_, List.getElem_mem h1, rfl⟩)
      obtain ⟨⟨⟨ticket, ⟨site, seq, dep, key, val⟩⟩, vd⟩, hx⟩ : ∃ x, ql[k] = x := ⟨_, rfl⟩
      rw [hx] at d0 d1 d2 d3 d4 d5 hnk hdk
      dsimp only at d0 d1 d2 d3 d4 d5 hnk hdk
      obtain ⟨da, dc, rfl⟩ := hnk.form
      have Hxk := hide hx
      have Hdk := hide hdk
      have Hnk := hide hnk
      obtain ⟨y0, y1, y2, y3, -⟩ := cells4T Hst.out.tok
      have hbw := World.block_lt_of_cell? wr _ d0
      have hlw := Hst.out.size
      have HS0 := hide (show ∀ V : World, RowKit.Below wr.heap.size wr V → V.cell? ⟨w.heap.size, 0, none⟩ = some (.int .i64 own) ∧ V.cell? ⟨w.heap.size, 1, none⟩ = some (.int .i64 nx) ∧ V.cell? ⟨w.heap.size, 2, none⟩ = some (.slice va' s.length vc') ∧ V.cell? ⟨w.heap.size, 3, none⟩ = some (.slice la xs.length lc) ∧ V.cell? ⟨b, o + k * 6, none⟩ = some (.int .i64 ticket) ∧ V.cell? ⟨b, o + k * 6 + 1, none⟩ = some (.int .i64 site) ∧ V.cell? ⟨b, o + k * 6 + 2, none⟩ = some (.int .i64 seq) ∧ V.cell? ⟨b, o + k * 6 + 3, none⟩ = some (.slice da dep.length dc) ∧ V.cell? ⟨b, o + k * 6 + 4, none⟩ = some (.string key) ∧ V.cell? ⟨b, o + k * 6 + 5, none⟩ = some (.string val) from fun V hV => ⟨(hV.cell (p := ⟨w.heap.size, 0, none⟩) (by show w.heap.size < _; omega)).trans y0, (hV.cell (p := ⟨w.heap.size, 1, none⟩) (by show w.heap.size < _; omega)).trans y1, (hV.cell (p := ⟨w.heap.size, 2, none⟩) (by show w.heap.size < _; omega)).trans y2, (hV.cell (p := ⟨w.heap.size, 3, none⟩) (by show w.heap.size < _; omega)).trans y3, (hV.cell (p := ⟨b, o + k * 6, none⟩) hbw).trans d0, (hV.cell (p := ⟨b, o + k * 6 + 1, none⟩) hbw).trans d1, (hV.cell (p := ⟨b, o + k * 6 + 2, none⟩) hbw).trans d2, (hV.cell (p := ⟨b, o + k * 6 + 3, none⟩) hbw).trans d3, (hV.cell (p := ⟨b, o + k * 6 + 4, none⟩) hbw).trans d4, (hV.cell (p := ⟨b, o + k * 6 + 5, none⟩) hbw).trans d5⟩)
      obtain ⟨c, hc⟩ : ∃ c, mayD own s ⟨ticket, ⟨site, seq, dep, key, val⟩⟩ = c := ⟨_, rfl⟩
      have Hc := hide hc
      go_upto_region 5 with fail
      have hd0 : RowKit.Below wr.heap.size wr wr.drew := (RowKit.Below.refl _ wr).drew
      refine region_begin 7 (by kernel_rfl) rfl ?_
      have HS := hide (fun V (hV : RowKit.Below wr.drew.heap.size wr.drew V) => HS0.out V (hd0.trans hV))
      have Hst1 := hide (Hst.out.new hd0)
      have CM := hide (refMay_calls (.agg #[.int .i64 own, .int .i64 nx, .slice va' s.length vc', .slice la xs.length lc]) (.agg #[.int .i64 ticket, .int .i64 site, .int .i64 seq, .slice da dep.length dc, .string key, .string val]) ⟨own, nx, s, xs.map (·.d)⟩ ⟨ticket, ⟨site, seq, dep, key, val⟩⟩ wr.drew ⟨va', vc', la, lc, by rw [List.length_map], Hst1.out.isSeen H0w.out, Hlate.out.below Hst1.out.below⟩ ⟨da, dc, rfl, hnk.below (H0w.out.trans (Hst1.out.below.mono H0w.out.size))⟩ Hp.out.seen (by have := hdk.dep; dsimp only at this ⊢; omega))
      rw [hc] at CM
      clear hx hdk hnk hrd hcap d0 d1 d2 d3 d4 d5 y0 y1 y2 y3 hbw HS0 hd0 Hst hc
      generalize wr.drew = V0 at *
      have HV := hide (RowKit.Below.refl V0.heap.size V0)
      refine heldA (fun V => V.cell? ⟨w.heap.size, 0, none⟩ = some (.int .i64 own) ∧ V.cell? ⟨w.heap.size, 1, none⟩ = some (.int .i64 nx) ∧ V.cell? ⟨w.heap.size, 2, none⟩ = some (.slice va' s.length vc') ∧ V.cell? ⟨w.heap.size, 3, none⟩ = some (.slice la xs.length lc) ∧ V.cell? ⟨b, o + k * 6, none⟩ = some (.int .i64 ticket) ∧ V.cell? ⟨b, o + k * 6 + 1, none⟩ = some (.int .i64 site) ∧ V.cell? ⟨b, o + k * 6 + 2, none⟩ = some (.int .i64 seq) ∧ V.cell? ⟨b, o + k * 6 + 3, none⟩ = some (.slice da dep.length dc) ∧ V.cell? ⟨b, o + k * 6 + 4, none⟩ = some (.string key) ∧ V.cell? ⟨b, o + k * 6 + 5, none⟩ = some (.string val)) ?_
      refine takeH 0 (.agg #[.int .i64 own, .int .i64 nx, .slice va' s.length vc', .slice la xs.length lc]) rfl (by kernel_rfl) (.inl ⟨rfl, fun w2 ⟨s0, s1, s2, s3, s4, s5, s6, s7, s8, s9⟩ => by go_simp⟩) (HS.out _ HV.out) ?_
      refine takeH 1 (.slice (some ⟨b, o, none⟩) ql.length lvc) rfl (by kernel_rfl) (.inl ⟨rfl, fun w2 ⟨s0, s1, s2, s3, s4, s5, s6, s7, s8, s9⟩ => by go_simp⟩) (HS.out _ HV.out) ?_
      refine takeH 2 (.int .i64 (k : Int)) rfl (by kernel_rfl) (.inl ⟨rfl, fun w2 ⟨s0, s1, s2, s3, s4, s5, s6, s7, s8, s9⟩ => by go_simp⟩) (HS.out _ HV.out) ?_
      refine takeH 3 (.pointer (some ⟨b, o + k * 6, none⟩)) rfl (by kernel_rfl) (.inl ⟨rfl, fun w2 ⟨s0, s1, s2, s3, s4, s5, s6, s7, s8, s9⟩ => by go_simp⟩) (HS.out _ HV.out) ?_
      refine takeH 4 (.agg #[.int .i64 ticket, .int .i64 site, .int .i64 seq, .slice da dep.length dc, .string key, .string val]) rfl (by kernel_rfl) (.inl ⟨rfl, fun w2 ⟨s0, s1, s2, s3, s4, s5, s6, s7, s8, s9⟩ => by go_simp⟩) (HS.out _ HV.out) ?_
      go_simp
      refine onlyH 5 (by kernel_rfl) ?_
      refine wpOp_call rfl rfl 15 #[.agg #[.int .i64 own, .int .i64 nx, .slice va' s.length vc', .slice la xs.length lc], .agg #[.int .i64 ticket, .int .i64 site, .int .i64 seq, .slice da dep.length dc, .string key, .string val]] (by go_simp) CM.out ?_
      rintro e V3 ⟨rfl, hb3⟩
      have Hst3 := hide (Hst1.out.new hb3)
      replace HV := hide (HV.out.trans (hb3.mono HV.out.size))
      refine ⟨_, rfl, HS.out _ HV.out, ?_⟩
      refine takeH 6 (.bool (!c)) rfl (by kernel_rfl) (.inl ⟨rfl, fun w2 ⟨s0, s1, s2, s3, s4, s5, s6, s7, s8, s9⟩ => by go_simp⟩) (HS.out _ HV.out) ?_
      refine endH (by kernel_rfl) ?_
      go_simp
      go_step
      clear CM HS HV Hst1 hb3
      cases c with
      | false =>
        go_wp2_with fail
        refine ⟨⟨ql, sl, s, nx, _, put, k + 1, by omega, hql, by go_num, Hst3.out, Hp.out, fun j hj hjk => ?_⟩, by simp [admMeas, lenOf', intOf]; omega⟩
        by_cases e : j = k
        · subst e
          rw [Hxk.out]
          exact Hc.out
        · exact Hno.out j hj (by omega)
      | true =>
        have hrd := rdD_of_row Hst3.out.left
        obtain ⟨d0, d1, d2, d3, d4, d5⟩ := hrd.six k h1
        rw [Hxk.out] at d0 d1 d2 d3 d4 d5
        dsimp only at d0 d1 d2 d3 d4 d5
        have hbx := box_below V3 (.cells #[.int .i64 ticket, .int .i64 site, .int .i64 seq, .slice da dep.length dc, .string key, .string val] 46)
        have hbn := World.alloc_heap_new V3 (.cells #[.int .i64 ticket, .int .i64 site, .int .i64 seq, .slice da dep.length dc, .string key, .string val] 46)
        have Hst4 := hide (Hst3.out.new hbx)
        have hz3 := Hst3.out.size
        clear hrd
        go_upto_region 8 with fail
        have hnb : RowKit.Below V3.heap.size V3 (V3.alloc (.cells #[.int .i64 ticket, .int .i64 site, .int .i64 seq, .slice da dep.length dc, .string key, .string val] 46)) := hbx
        generalize hW4 : V3.alloc (.cells #[.int .i64 ticket, .int .i64 site, .int .i64 seq, .slice da dep.length dc, .string key, .string val] 46) = W4 at *
        generalize hdbs : V3.heap.size = db at *
        have hdbw : w.heap.size + 2 ≤ db := by omega
        have Hd4 := hide hbn
        have Hnx : Hid (0 ≤ nx ∧ nx ≤ 1099512676352) := hide (by
          have h1 := Hp.out.next
          have h2 := Hp.out.count
          simp only [List.length_map] at h2
          omega)
        have Hsl : Hid (sl.length ≤ 1048576) := hide (by
          have h1 := congrArg List.length Hp.out.slots
          rw [List.length_map, slotsT_length] at h1
          have h2 := Hp.out.count
          simp only [List.length_map] at h2
          omega)
        have Hs := hide Hp.out.seen
        have HB34 := hide hbx
        have Hdbs := hide hdbs
        clear d0 d1 d2 d3 d4 d5 hbx hbn hnb hW4 hdbs
        obtain ⟨e0, e1, e2, e3, e4, e5, g0, g1, g2, g3, g4, g5⟩ := cells6T Hd4.out
        obtain ⟨y0, y1, y2, y3, -⟩ := cells4T Hst4.out.tok
        by_cases hso : site = own
        · obtain ⟨g, hg⟩ : ∃ g, geti s own = g := ⟨_, rfl⟩
          have hgr := Hs.out.rng own
          rw [hg] at hgr
          have CG := hide (refGet_calls _ s own W4 (Hst4.out.isSeen H0w.out) (by have := Hs.out.len; omega))
          rw [hg] at CG
          have Hq : Hid ((putT own s ⟨ticket, ⟨site, seq, dep, key, val⟩⟩).r.seq = g + 1) := hide (by unfold putT; rw [if_pos (show _ = _ from hso)]; dsimp only; rw [hg])
          obtain ⟨own', hown'⟩ : ∃ x, x = own := ⟨_, rfl⟩
          have hob : (site == own) = true := by simpa using hso
          clear hg hown' hso
          go_upto_region 9 with fail
          go_upto_region 10 with (go_at_call 22; refine CG.out.mono ?_; rintro e w9 ⟨rfl, rfl⟩)
          clear e0 e1 e2 e3 e4 e5 g0 g1 g2 g3 g4 g5 y0 y1 y2 y3 CG
          have hb5 : RowKit.Below db V3 (w9.setCell ⟨db, 2, none⟩ (.int .i64 (g + 1))) := HB34.out.setCell (p := ⟨db, 2, none⟩) (Nat.le_refl _) _
          have hd5 := setAt (j := 2) Hd4.out (.int .i64 (g + 1))
          simp only [List.setIfInBounds_toArray, List.set_cons_succ, List.set_cons_zero] at hd5
          have Hst5 := hide (Hst3.out.new (by rw [Hdbs.out]; exact hb5))
          have Hd5 := hide hd5
          clear hb5 hd5 HB34 Hd4 Hst4 Hst3
          generalize w9.setCell ⟨db, 2, none⟩ (.int .i64 (g + 1)) = W5 at *
          generalize g + 1 = q at *
          obtain ⟨e0, e1, e2, e3, e4, e5, -⟩ := cells6T Hd5.out
          obtain ⟨y0, y1, y2, y3, -⟩ := cells4T Hst5.out.tok
          have hz5 := Hst5.out.size
          have hnx0 : 0 ≤ nx := Hnx.out.1
          have hnx1 : nx ≤ 1099512676352 := Hnx.out.2
          have hsl : sl.length ≤ 1048576 := Hsl.out
          go_upto_region 11 with (at_builtin; refine wpList_append_own _ rfl _ _ 51 rfl (w.heap.size + 2) 80 j0 _ 7 88 Try.underlying51 hj0 hj1 hj2 hj3 rfl (by decide) _ _ _ rfl (World.ownsRow.alloc Hst5.out.slots _) ⟨_, 0, none⟩ 1 1 (Sv.cells ⟨nx, ⟨⟨ticket, ⟨site, q, dep, key, val⟩⟩, .slice da dep.length dc⟩⟩) rfl rfl (cells_new rfl) (one7 (s := ⟨nx, ⟨⟨ticket, ⟨site, q, dep, key, val⟩⟩, .slice da dep.length dc⟩⟩) rfl) (by unfold maxLen; omega) (by omega) (by simp; omega) ?_; intro v7 W7 hown7 hgrow7 _; have Hst7 := hide (Hst5.out.add (x := ⟨nx, ⟨⟨ticket, ⟨site, q, dep, key, val⟩⟩, .slice da dep.length dc⟩⟩) Hnk.out hown7 hgrow7); have Hd7 := hide ((hgrow7.block _ (by simp; have := ltB Hd5.out; omega) (row_not Hst5.out.slots Hd5.out (by decide))).trans ((Below.heap_alloc _ _ _ (ltB Hd5.out)).trans Hd5.out)); obtain ⟨g7, c7, rfl⟩ := ownsRow_succ hown7; clear hown7 hgrow7)
          clear e0 e1 e2 e3 e4 e5 y0 y1 y2 y3 Hst5 Hd5
          obtain ⟨y0, y1, y2, y3, f0, f1, f2, f3⟩ := cells4T Hst7.out.tok
          go_upto_region 12 with fail
          clear y0 y1 y2 y3 f0 f1 f2 f3
          have Hst8 := hide (Hst7.out.setNext (nx + 1))
          have hdb : db ≠ w.heap.size := by omega
          have Hd8 := hide ((Below.heap_setCell W7 ⟨w.heap.size, 1, none⟩ (.int .i64 (nx + 1)) db hdb).trans Hd7.out)
          clear Hst7 Hd7 hdb
          generalize W7.setCell ⟨w.heap.size, 1, none⟩ (.int .i64 (nx + 1)) = W8 at *
          obtain ⟨e0, e1, e2, e3, e4, e5, -⟩ := cells6T Hd8.out
          obtain ⟨y0, y1, y2, y3, f0, f1, f2, f3⟩ := cells4T Hst8.out.tok
          have CW := hide (refWithO_calls _ s site q W8 (Hst8.out.isSeen H0w.out) Hs.out.len)
          go_upto_region 13 with (go_at_call 24; refine CW.out.mono ?_; rintro e W9 ⟨v9, rfl, hown9, hb9⟩; have Hst9 := hide (Hst8.out.new hb9); have Hrow9 := hide (ownsRow_low hown9 Hst8.out.size); obtain ⟨v9a, v9c, rfl⟩ := ownsRow_slice hown9; clear y0 y1 y2 y3 f0 f1 f2 f3 e0 e1 e2 e3 e4 e5 hown9 hb9 CW Hst8 Hd8; obtain ⟨y0, y1, y2, y3, f0, f1, f2, f3⟩ := cells4T Hst9.out.tok)
          clear y0 y1 y2 y3 f0 f1 f2 f3
          have Hst10 := hide (Hst9.out.setSeen Hrow9.out)
          clear Hst9 Hrow9
          generalize W9.setCell ⟨w.heap.size, 2, none⟩ (.slice v9a (withL s site q).length v9c) = W10 at *
          have CO := hide (refWithout_calls _ ql k W10 h1 (rdD_of_row Hst10.out.left) (fun x hx => let ⟨a, c, e⟩ := (Hst10.out.nums x hx).form; ⟨a, _, c, e⟩) hql)
          go_wp2_with (go_at_call 39; refine CO.out.mono ?_; rintro e W11 ⟨v11, rfl, hown11, hb11⟩; have Hst11 := hide (Hst10.out.take hown11 (fun x hx => List.mem_of_mem_eraseIdx hx) hb11); obtain ⟨v11a, v11c, rfl⟩ := ownsRow_slice hown11; clear hown11 hb11 CO Hst10)
          have hel : (ql.eraseIdx k).length = ql.length - 1 := by rw [List.length_eraseIdx, if_pos h1]
          have hkm : k < (ql.map (·.d)).length := by simpa using h1
          have hgk : (ql.map (·.d))[k] = ⟨ticket, ⟨site, seq, dep, key, val⟩⟩ := by rw [List.getElem_map, Hxk.out]
          have hstep := Hp.out.step k hkm (fun j hj hjk => by rw [List.getElem_map]; exact Hno.out j (by simpa using hj) hjk) (by rw [hgk]; exact Hc.out)
          rw [hgk, putT_form, Hq.out] at hstep
          refine ⟨⟨ql.eraseIdx k, sl ++ [⟨nx, ⟨⟨ticket, ⟨site, q, dep, key, val⟩⟩, .slice da dep.length dc⟩⟩], withL s site q, nx + 1, _, put ++ [⟨ticket, ⟨site, q, dep, key, val⟩⟩], 0, Nat.zero_le _, by omega, rfl, Hst11.out, ?_, fun j _ h => by omega⟩, by simp [admMeas, lenOf', intOf, hel]; omega⟩
          have e1 : (ql.eraseIdx k).map (·.d) = (ql.map (·.d)).eraseIdx k := map_erase _ ql k
          have e2 : (sl ++ [(⟨nx, ⟨⟨ticket, ⟨site, q, dep, key, val⟩⟩, .slice da dep.length dc⟩⟩ : Sv)]).map Sv.dat = sl.map Sv.dat ++ [((nx, (⟨ticket, ⟨site, q, dep, key, val⟩⟩ : DrD)) : Int × DrD)] := by rw [List.map_append]; rfl
          have e3 : seenT own s ⟨ticket, ⟨site, seq, dep, key, val⟩⟩ = withL s site q := by unfold seenT; rw [Hq.out]
          rw [e1, e2, ← e3]
          exact hstep
        · have hob : (site == own) = false := by simpa using hso
          have Hq : Hid ((putT own s ⟨ticket, ⟨site, seq, dep, key, val⟩⟩).r.seq = seq) := hide (by unfold putT; rw [if_neg (show ¬ _ from hso)])
          clear hso
          go_upto_region 10 with fail
          clear e0 e1 e2 e3 e4 e5 g0 g1 g2 g3 g4 g5 y0 y1 y2 y3
          have Hd5 := hide Hd4.out
          have Hst5 := hide Hst4.out
          clear HB34 Hd4 Hst4 Hst3
          generalize W4 = W5 at *
          obtain ⟨e0, e1, e2, e3, e4, e5, -⟩ := cells6T Hd5.out
          obtain ⟨y0, y1, y2, y3, -⟩ := cells4T Hst5.out.tok
          have hz5 := Hst5.out.size
          have hnx0 : 0 ≤ nx := Hnx.out.1
          have hnx1 : nx ≤ 1099512676352 := Hnx.out.2
          have hsl : sl.length ≤ 1048576 := Hsl.out
          go_upto_region 11 with (at_builtin; refine wpList_append_own _ rfl _ _ 51 rfl (w.heap.size + 2) 80 j0 _ 7 88 Try.underlying51 hj0 hj1 hj2 hj3 rfl (by decide) _ _ _ rfl (World.ownsRow.alloc Hst5.out.slots _) ⟨_, 0, none⟩ 1 1 (Sv.cells ⟨nx, ⟨⟨ticket, ⟨site, seq, dep, key, val⟩⟩, .slice da dep.length dc⟩⟩) rfl rfl (cells_new rfl) (one7 (s := ⟨nx, ⟨⟨ticket, ⟨site, seq, dep, key, val⟩⟩, .slice da dep.length dc⟩⟩) rfl) (by unfold maxLen; omega) (by omega) (by simp; omega) ?_; intro v7 W7 hown7 hgrow7 _; have Hst7 := hide (Hst5.out.add (x := ⟨nx, ⟨⟨ticket, ⟨site, seq, dep, key, val⟩⟩, .slice da dep.length dc⟩⟩) Hnk.out hown7 hgrow7); have Hd7 := hide ((hgrow7.block _ (by simp; have := ltB Hd5.out; omega) (row_not Hst5.out.slots Hd5.out (by decide))).trans ((Below.heap_alloc _ _ _ (ltB Hd5.out)).trans Hd5.out)); obtain ⟨g7, c7, rfl⟩ := ownsRow_succ hown7; clear hown7 hgrow7)
          clear e0 e1 e2 e3 e4 e5 y0 y1 y2 y3 Hst5 Hd5
          obtain ⟨y0, y1, y2, y3, f0, f1, f2, f3⟩ := cells4T Hst7.out.tok
          go_upto_region 12 with fail
          clear y0 y1 y2 y3 f0 f1 f2 f3
          have Hst8 := hide (Hst7.out.setNext (nx + 1))
          have hdb : db ≠ w.heap.size := by omega
          have Hd8 := hide ((Below.heap_setCell W7 ⟨w.heap.size, 1, none⟩ (.int .i64 (nx + 1)) db hdb).trans Hd7.out)
          clear Hst7 Hd7 hdb
          generalize W7.setCell ⟨w.heap.size, 1, none⟩ (.int .i64 (nx + 1)) = W8 at *
          obtain ⟨e0, e1, e2, e3, e4, e5, -⟩ := cells6T Hd8.out
          obtain ⟨y0, y1, y2, y3, f0, f1, f2, f3⟩ := cells4T Hst8.out.tok
          have CW := hide (refWithO_calls _ s site seq W8 (Hst8.out.isSeen H0w.out) Hs.out.len)
          go_upto_region 13 with (go_at_call 24; refine CW.out.mono ?_; rintro e W9 ⟨v9, rfl, hown9, hb9⟩; have Hst9 := hide (Hst8.out.new hb9); have Hrow9 := hide (ownsRow_low hown9 Hst8.out.size); obtain ⟨v9a, v9c, rfl⟩ := ownsRow_slice hown9; clear y0 y1 y2 y3 f0 f1 f2 f3 e0 e1 e2 e3 e4 e5 hown9 hb9 CW Hst8 Hd8; obtain ⟨y0, y1, y2, y3, f0, f1, f2, f3⟩ := cells4T Hst9.out.tok)
          clear y0 y1 y2 y3 f0 f1 f2 f3
          have Hst10 := hide (Hst9.out.setSeen Hrow9.out)
          clear Hst9 Hrow9
          generalize W9.setCell ⟨w.heap.size, 2, none⟩ (.slice v9a (withL s site seq).length v9c) = W10 at *
          have CO := hide (refWithout_calls _ ql k W10 h1 (rdD_of_row Hst10.out.left) (fun x hx => let ⟨a, c, e⟩ := (Hst10.out.nums x hx).form; ⟨a, _, c, e⟩) hql)
          go_wp2_with (go_at_call 39; refine CO.out.mono ?_; rintro e W11 ⟨v11, rfl, hown11, hb11⟩; have Hst11 := hide (Hst10.out.take hown11 (fun x hx => List.mem_of_mem_eraseIdx hx) hb11); obtain ⟨v11a, v11c, rfl⟩ := ownsRow_slice hown11; clear hown11 hb11 CO Hst10)
          have hel : (ql.eraseIdx k).length = ql.length - 1 := by rw [List.length_eraseIdx, if_pos h1]
          have hkm : k < (ql.map (·.d)).length := by simpa using h1
          have hgk : (ql.map (·.d))[k] = ⟨ticket, ⟨site, seq, dep, key, val⟩⟩ := by rw [List.getElem_map, Hxk.out]
          have hstep := Hp.out.step k hkm (fun j hj hjk => by rw [List.getElem_map]; exact Hno.out j (by simpa using hj) hjk) (by rw [hgk]; exact Hc.out)
          rw [hgk, putT_form, Hq.out] at hstep
          refine ⟨⟨ql.eraseIdx k, sl ++ [⟨nx, ⟨⟨ticket, ⟨site, seq, dep, key, val⟩⟩, .slice da dep.length dc⟩⟩], withL s site seq, nx + 1, _, put ++ [⟨ticket, ⟨site, seq, dep, key, val⟩⟩], 0, Nat.zero_le _, by omega, rfl, Hst11.out, ?_, fun j _ h => by omega⟩, by simp [admMeas, lenOf', intOf, hel]; omega⟩
          have e1 : (ql.eraseIdx k).map (·.d) = (ql.map (·.d)).eraseIdx k := map_erase _ ql k
          have e2 : (sl ++ [(⟨nx, ⟨⟨ticket, ⟨site, seq, dep, key, val⟩⟩, .slice da dep.length dc⟩⟩ : Sv)]).map Sv.dat = sl.map Sv.dat ++ [((nx, (⟨ticket, ⟨site, seq, dep, key, val⟩⟩ : DrD)) : Int × DrD)] := by rw [List.map_append]; rfl
          have e3 : seenT own s ⟨ticket, ⟨site, seq, dep, key, val⟩⟩ = withL s site seq := by unfold seenT; rw [Hq.out]
          rw [e1, e2, ← e3]
          exact hstep
    · have hkq : k = ql.length := by omega
      subst hkq
      have hp2 : AdmP own next seen (xs.map (·.d) ++ ys.map (·.d)) nx s (ql.map (·.d)) (sl.map Sv.dat) put := by rw [← Hzm.out]; exact Hp.out
      have Hfin := hide (hp2.fin fun j hj => by rw [List.getElem_map]; exact Hno.out j (by simpa using hj) (by simpa using hj))
      have Hs := hide Hp.out.seen
      clear hp2 Hp Hno Hzm HzL
      obtain ⟨y0, y1, y2, y3, f0, f1, f2, f3⟩ := cells4T Hst.out.tok
      go_upto_region 16 with fail
      clear y0 y1 y2 y3 f0 f1 f2 f3 h1
      have Hst2 := hide (Hst.out.setLate (.slice none 0 0))
      clear Hst
      generalize wr.setCell ⟨w.heap.size, 3, none⟩ (.slice none 0 0) = W2 at *
      have hW2z := Hst2.out.size
      go_wp2_with fail
      go_loopw [10] (fun i wx => ∃ (k : Nat) (la' : Option Addr) (lc' : Nat) (ol : List Dv), k ≤ ql.length ∧ i = .int .i64 (k : Int) ∧ ol.length ≤ k ∧ Touch (fun b => b = w.heap.size) W2 wx ∧ wx.heap[w.heap.size]? = some (.cells #[.int .i64 own, .int .i64 nx, .slice va' s.length vc', .slice la' ol.length lc'] 34 (0, 0)) ∧ wx.ownsRow W2.heap.size 46 6 (.slice la' ol.length lc') ol.length (ol.flatMap Dv.cells) ∧ (∀ q ∈ ol, q ∈ ql) ∧ ol.map (·.d) ++ lateT own s ((ql.map (·.d)).take k) ((ql.map (·.d)).drop k) = lateT own s [] (ql.map (·.d))) (fun i _ => ql.length - (intOf i).toNat)
      case atStart => exact ⟨0, none, 0, [], Nat.zero_le _, rfl, Nat.le_refl _, Touch.refl _ _, Hst2.out.tok, World.ownsRow_nil _ _ _ _, (fun q h => by cases h), by simp⟩
      case round =>
        obtain ⟨k, la', lc', ol, hk2, rfl, hol, htc, htok, hrow, hmem, heq⟩ := hrel
        have Hstr := hide (Hst2.out.touched htc htok)
        have Hmem := hide hmem
        have Heq := hide heq
        have Htc := hide htc
        have Htok := hide htok
        have Hrow := hide hrow
        have hol2 : ol.length ≤ 1048576 := by omega
        clear htc htok hrow hmem heq
        by_cases h1 : k < ql.length
        · have h1I : (k : Int) < (ql.length : Int) := by omega
          have hrd := rdD_of_row Hstr.out.left
          obtain ⟨b, o, cap, he, hcap⟩ := hrd.at0 (by omega)
          simp only [Value.slice.injEq, true_and] at he
          obtain ⟨rfl, rfl⟩ := he
          have hnk := Hstr.out.nums ql[k] (List.getElem_mem h1)
          obtain ⟨⟨⟨ticket, ⟨site, seq, dep, key, val⟩⟩, vd⟩, hx⟩ : ∃ x, ql[k] = x := ⟨_, rfl⟩
          have Hxk := hide hx
          rw [hx] at hnk
          dsimp only at hnk
          obtain ⟨da, dc, rfl⟩ := hnk.form
          have CG := hide (refGone_calls own nx s (.slice va' s.length vc') la' ol.length lc' _ ql k wr (Hstr.out.isSeen H0w.out) hrd (fun x hx => let ⟨a, c, e⟩ := (Hstr.out.nums x hx).form; ⟨a, _, c, e⟩) h1 Hs.out hql)
          obtain ⟨c, hc⟩ : ∃ c, goneT own s ((ql.map (·.d)).take k) ql[k].d = c := ⟨_, rfl⟩
          rw [hc] at CG
          have Hc := hide hc
          obtain ⟨y0, y1, y2, y3, -⟩ := cells4T Htok.out
          have hkm : k < (ql.map (·.d)).length := by simpa using h1
          have hgk : (ql.map (·.d))[k] = ql[k].d := List.getElem_map _
          have Hstep := hide (late_step hkm Heq.out)
          rw [hgk] at Hstep
          clear hx hrd hcap hc hkm hgk hnk
          cases c with
          | true =>
            go_upto_region 19 with fail
            go_wp2_with (go_at_call 40; refine CG.out.mono ?_; rintro e w3 ⟨rfl, hb3⟩)
            have Hst3 := hide (Hstr.out.new hb3)
            have Htc3 := hide (Htc.out.new hb3)
            have Htok3 := hide (keepB Htok.out hb3)
            have Hrow3 := hide (own_below Hrow.out hb3)
            clear CG hb3 y0 y1 y2 y3 Hstr Htc Htok Hrow
            exact ⟨⟨k + 1, la', lc', ol, by omega, by go_num, by omega, Htc3.out, Htok3.out, Hrow3.out, Hmem.out, Hstep.out.1 Hc.out⟩, by simp [intOf]; omega⟩
          | false =>
            go_upto_region 20 with (go_at_call 40; refine CG.out.mono ?_; rintro e w3 ⟨rfl, hb3⟩)
            have Hst3 := hide (Hstr.out.new hb3)
            have Htc3 := hide (Htc.out.new hb3)
            have Htok3 := hide (keepB Htok.out hb3)
            have Hrow3 := hide (own_below Hrow.out hb3)
            clear CG hb3 y0 y1 y2 y3 Hstr Htc Htok Hrow
            have hrd := rdD_of_row Hst3.out.left
            obtain ⟨d0, d1, d2, d3, d4, d5⟩ := hrd.six k h1
            rw [Hxk.out] at d0 d1 d2 d3 d4 d5
            dsimp only at d0 d1 d2 d3 d4 d5
            obtain ⟨y0, y1, y2, y3, -⟩ := cells4T Htok3.out
            have hbW : b < W2.heap.size := (Hst2.out.left.lt b rfl).2
            have HS0 := hide (show ∀ V : World, V.heap[w.heap.size]? = w3.heap[w.heap.size]? → V.heap[b]? = w3.heap[b]? → V.cell? ⟨w.heap.size, 0, none⟩ = some (.int .i64 own) ∧ V.cell? ⟨w.heap.size, 1, none⟩ = some (.int .i64 nx) ∧ V.cell? ⟨w.heap.size, 2, none⟩ = some (.slice va' s.length vc') ∧ V.cell? ⟨w.heap.size, 3, none⟩ = some (.slice la' ol.length lc') ∧ V.cell? ⟨b, o + k * 6, none⟩ = some (.int .i64 ticket) ∧ V.cell? ⟨b, o + k * 6 + 1, none⟩ = some (.int .i64 site) ∧ V.cell? ⟨b, o + k * 6 + 2, none⟩ = some (.int .i64 seq) ∧ V.cell? ⟨b, o + k * 6 + 3, none⟩ = some (.slice da dep.length dc) ∧ V.cell? ⟨b, o + k * 6 + 4, none⟩ = some (.string key) ∧ V.cell? ⟨b, o + k * 6 + 5, none⟩ = some (.string val) from fun V h1 h2 => ⟨(World.cell?_of_block (a := ⟨w.heap.size, 0, none⟩) h1).trans y0, (World.cell?_of_block (a := ⟨w.heap.size, 1, none⟩) h1).trans y1, (World.cell?_of_block (a := ⟨w.heap.size, 2, none⟩) h1).trans y2, (World.cell?_of_block (a := ⟨w.heap.size, 3, none⟩) h1).trans y3, (World.cell?_of_block (a := ⟨b, o + k * 6, none⟩) h2).trans d0, (World.cell?_of_block (a := ⟨b, o + k * 6 + 1, none⟩) h2).trans d1, (World.cell?_of_block (a := ⟨b, o + k * 6 + 2, none⟩) h2).trans d2, (World.cell?_of_block (a := ⟨b, o + k * 6 + 3, none⟩) h2).trans d3, (World.cell?_of_block (a := ⟨b, o + k * 6 + 4, none⟩) h2).trans d4, (World.cell?_of_block (a := ⟨b, o + k * 6 + 5, none⟩) h2).trans d5⟩)
            have hd0 : RowKit.Below w3.heap.size w3 w3.drew := (RowKit.Below.refl _ w3).drew
            have Hm1 : Hid (ql[k] ∈ ql) := hide (List.getElem_mem h1)
            refine region_begin 10 (by kernel_rfl) rfl ?_
            have HS := hide (show ∀ V : World, V.heap[w.heap.size]? = w3.drew.heap[w.heap.size]? → V.heap[b]? = w3.drew.heap[b]? → _ from HS0.out)
            have Htc4 := hide (Htc3.out.new hd0)
            have Htok4 := hide (keepB Htok3.out hd0)
            have Hrow4 := hide (own_below Hrow3.out hd0)
            clear d0 d1 d2 d3 d4 d5 y0 y1 y2 y3 hrd HS0 hd0 Hst3 Htc3 Htok3 Hrow3
            generalize w3.drew = V0 at *
            have hz4 := Htc4.out.size
            refine stretchE (g := 2) 8 8 (fun V => V.cell? ⟨w.heap.size, 0, none⟩ = some (.int .i64 own) ∧ V.cell? ⟨w.heap.size, 1, none⟩ = some (.int .i64 nx) ∧ V.cell? ⟨w.heap.size, 2, none⟩ = some (.slice va' s.length vc') ∧ V.cell? ⟨w.heap.size, 3, none⟩ = some (.slice la' ol.length lc') ∧ V.cell? ⟨b, o + k * 6, none⟩ = some (.int .i64 ticket) ∧ V.cell? ⟨b, o + k * 6 + 1, none⟩ = some (.int .i64 site) ∧ V.cell? ⟨b, o + k * 6 + 2, none⟩ = some (.int .i64 seq) ∧ V.cell? ⟨b, o + k * 6 + 3, none⟩ = some (.slice da dep.length dc) ∧ V.cell? ⟨b, o + k * 6 + 4, none⟩ = some (.string key) ∧ V.cell? ⟨b, o + k * 6 + 5, none⟩ = some (.string val)) ?_
            refine HeadE.take 0 (.pointer (some ⟨w.heap.size, 3, none⟩)) rfl (by kernel_rfl) (.inl ⟨rfl, fun w2 ⟨s0, s1, s2, s3, s4, s5, s6, s7, s8, s9⟩ => by go_simp⟩) (HS.out _ rfl rfl) ?_
            refine HeadE.take 1 (.slice la' ol.length lc') rfl (by kernel_rfl) (.inl ⟨rfl, fun w2 ⟨s0, s1, s2, s3, s4, s5, s6, s7, s8, s9⟩ => by go_simp⟩) (HS.out _ rfl rfl) ?_
            refine HeadE.take 2 (.slice (some ⟨b, o, none⟩) ql.length lvc) rfl (by kernel_rfl) (.inl ⟨rfl, fun w2 ⟨s0, s1, s2, s3, s4, s5, s6, s7, s8, s9⟩ => by go_simp⟩) (HS.out _ rfl rfl) ?_
            refine HeadE.take 3 (.int .i64 (k : Int)) rfl (by kernel_rfl) (.inl ⟨rfl, fun w2 ⟨s0, s1, s2, s3, s4, s5, s6, s7, s8, s9⟩ => by go_simp⟩) (HS.out _ rfl rfl) ?_
            refine HeadE.take 4 (.pointer (some ⟨b, o + k * 6, none⟩)) rfl (by kernel_rfl) (.inl ⟨rfl, fun w2 ⟨s0, s1, s2, s3, s4, s5, s6, s7, s8, s9⟩ => by go_simp⟩) (HS.out _ rfl rfl) ?_
            refine HeadE.take 5 (.agg #[.int .i64 ticket, .int .i64 site, .int .i64 seq, .slice da dep.length dc, .string key, .string val]) rfl (by kernel_rfl) (.inl ⟨rfl, fun w2 ⟨s0, s1, s2, s3, s4, s5, s6, s7, s8, s9⟩ => by go_simp⟩) (HS.out _ rfl rfl) ?_
            go_simp
            refine HeadE.only 6 (by kernel_rfl) ?_
            refine wpOp_val rfl rfl (v := .slice (some ⟨V0.heap.size, 0, none⟩) 1 1) (w' := V0.alloc (.cells #[.int .i64 ticket, .int .i64 site, .int .i64 seq, .slice da dep.length dc, .string key, .string val] 46)) (by go_simp) ?_
            have hV1 := Below.heap_alloc V0 (.cells #[.int .i64 ticket, .int .i64 site, .int .i64 seq, .slice da dep.length dc, .string key, .string val] 46)
            refine ⟨HS.out _ (hV1 _ (by omega)) (hV1 _ (by omega)), ?_⟩
            go_simp
            refine HeadE.only 7 (by kernel_rfl) ?_
            refine wpOp_appendT rfl rfl _ _ 32 rfl W2.heap.size 46 i0 _ 6 80 Try.underlying32 hi0 hz0 hz1 hz2 rfl (by decide) (.slice la' ol.length lc') ol.length _ (by go_simp) (World.ownsRow.alloc Hrow4.out _) ⟨V0.heap.size, 0, none⟩ 1 1 (Dv.cells ⟨⟨ticket, ⟨site, seq, dep, key, val⟩⟩, .slice da dep.length dc⟩) (by go_simp) rfl (cells_new rfl) (one6 rfl) (by unfold maxLen; omega) (by omega) (by simp; omega) ?_
            intro v2 V2 hown2 hgrow2
            have hkp : ∀ k, k < W2.heap.size → V2.heap[k]? = V0.heap[k]? := fun k hk => (hgrow2.block k (by simp; omega) (fun e => by have := (Hrow4.out.lt k e.symm).1; omega)).trans (hV1 k (by omega))
            have hB2 : RowKit.Below W2.heap.size V0 V2 := ((RowKit.Below.refl W2.heap.size V0).alloc (by omega) (.cells #[.int .i64 ticket, .int .i64 site, .int .i64 seq, .slice da dep.length dc, .string key, .string val] 46)).grown hgrow2 (by simp; omega) (fun j hj => (Hrow4.out.lt j hj).1)
            have ht2 : Touch (fun b => b = w.heap.size) W2 V2 := Htc4.out.upper (touch_of_below (S := fun i => W2.heap.size ≤ i) hB2 fun k _ h => h) (fun i h => h)
            have htok2 := (hkp w.heap.size (by omega)).trans Htok4.out
            obtain ⟨g2, c2, rfl⟩ := ownsRow_succ hown2
            have hgw := (hown2.lt g2 rfl).1
            refine ⟨HS.out _ (hkp _ (by omega)) (hkp _ hbW), ?_⟩
            clear hgrow2 hkp hB2 hV1 Hrow4 Htok4 Htc4 HS
            go_simp
            refine HeadE.fin (by kernel_rfl) ?_
            refine onlyA 8 (by kernel_rfl) ?_
            refine wpOp_val rfl rfl (v := .pointer (some ⟨w.heap.size, 3, none⟩)) (w' := V2) (by go_simp) ?_
            refine onlyA 9 (by kernel_rfl) ?_
            obtain ⟨y0, y1, y2, y3, f0, f1, f2, f3⟩ := cells4T htok2
            refine wpOp_skip rfl rfl (w' := V2.setCell ⟨w.heap.size, 3, none⟩ (.slice (some ⟨g2, 0, none⟩) (ol.length + 1) c2)) (by go_simp) ?_
            have ht3 := ht2.set ⟨w.heap.size, 3, none⟩ (.slice (some ⟨g2, 0, none⟩) (ol.length + 1) c2) rfl
            have htok3 := setAt (j := 3) htok2 (.slice (some ⟨g2, 0, none⟩) (ol.length + 1) c2)
            simp only [List.setIfInBounds_toArray, List.set_cons_succ, List.set_cons_zero] at htok3
            have hrow3 := ownsRow_of_heap hown2 fun k' e => Below.heap_setCell V2 ⟨w.heap.size, 3, none⟩ (.slice (some ⟨g2, 0, none⟩) (ol.length + 1) c2) k' (by have := (hown2.lt k' e).1; show k' ≠ w.heap.size; omega)
            clear y0 y1 y2 y3 f0 f1 f2 f3 ht2 htok2 hown2
            generalize V2.setCell ⟨w.heap.size, 3, none⟩ (.slice (some ⟨g2, 0, none⟩) (ol.length + 1) c2) = V3 at *
            have hlen1 : (ol ++ [(⟨⟨ticket, ⟨site, seq, dep, key, val⟩⟩, .slice da dep.length dc⟩ : Dv)]).length = ol.length + 1 := by rw [List.length_append]; rfl
            have hfm : (ol ++ [(⟨⟨ticket, ⟨site, seq, dep, key, val⟩⟩, .slice da dep.length dc⟩ : Dv)]).flatMap Dv.cells = ol.flatMap Dv.cells ++ Dv.cells ⟨⟨ticket, ⟨site, seq, dep, key, val⟩⟩, .slice da dep.length dc⟩ := by rw [List.flatMap_append]; simp
            have hmp : (ol ++ [(⟨⟨ticket, ⟨site, seq, dep, key, val⟩⟩, .slice da dep.length dc⟩ : Dv)]).map (·.d) = ol.map (·.d) ++ [ql[k].d] := by rw [List.map_append, Hxk.out]; rfl
            refine endA (by kernel_rfl) ?_
            go_simp
            go_step
            go_wp2_with fail
            refine ⟨⟨k + 1, some ⟨g2, 0, none⟩, c2, ol ++ [⟨⟨ticket, ⟨site, seq, dep, key, val⟩⟩, .slice da dep.length dc⟩], by omega, by go_num, by rw [hlen1]; omega, ht3, by rw [hlen1]; exact htok3, by rw [hlen1, hfm]; exact hrow3, fun q hq => ?_, by rw [hmp]; exact Hstep.out.2 Hc.out⟩, by simp [intOf]; omega⟩
            rcases List.mem_append.1 hq with hq | hq
            · exact Hmem.out q hq
            · rw [List.mem_singleton.1 hq, ← Hxk.out]
              exact Hm1.out
        · have hkq : k = ql.length := by omega
          subst hkq
          have Hol : Hid (ol.map (·.d) = lateT own s [] (ql.map (·.d))) := hide (by
            have h := Heq.out
            rw [List.drop_eq_nil_of_le (by simp)] at h
            simpa [lateT] using h)
          obtain ⟨y0, y1, y2, y3, -⟩ := cells4T Hstr.out.tok
          obtain ⟨r0, r1, r2, r3, f0, f1, f2, f3⟩ := cells4T Hstr.out.res
          clear Heq h1
          go_wp2_with fail
          have e2 := put4T_heap Hstr.out.res (.int .i64 own) (.int .i64 nx) (.slice va' s.length vc') (.slice la' ol.length lc')
          have hB4 := put4T_below Hstr.out.below (show w.heap.size ≤ w.heap.size + 1 by omega) (.int .i64 own) (.int .i64 nx) (.slice va' s.length vc') (.slice la' ol.length lc')
          have ho4 : ∀ k, k ≠ w.heap.size + 1 → (put4T wr (w.heap.size + 1) (.int .i64 own) (.int .i64 nx) (.slice va' s.length vc') (.slice la' ol.length lc')).heap[k]? = wr.heap[k]? := fun k hk => put4T_other k hk _ _ _ _
          obtain ⟨W4, hW4⟩ : ∃ W4, put4T wr (w.heap.size + 1) (.int .i64 own) (.int .i64 nx) (.slice va' s.length vc') (.slice la' ol.length lc') = W4 := ⟨_, rfl⟩
          rw [hW4] at e2 hB4 ho4
          unfold put4T at hW4
          rw [hW4]
          obtain ⟨q0, q1, q2, q3, -⟩ := cells4T e2
          have hz4 : wr.heap.size ≤ W4.heap.size := by rw [← hW4]; simp
          have hslots4 := ownsRow_of_heap Hstr.out.slots fun k e => ho4 k (by have := (Hstr.out.slots.lt k e).1; omega)
          have hrow4 := ownsRow_of_heap Hrow.out fun k e => ho4 k (by have := (Hrow.out.lt k e).1; omega)
          have hB04 := H0w.out.trans (hB4.mono H0w.out.size)
          have hA : ∀ X : World, (∀ k, (k < w0.heap.size ∨ w.heap.size ≤ k) → k < W4.heap.size → X.heap[k]? = W4.heap[k]?) → ∀ i, i < w0.heap.size → X.heap[i]? = w0.heap[i]? := fun X hX i hi => (hX i (.inl hi) (by have := hB04.size; omega)).trans (hB04.block i hi)
          refine bodyPost_ret (v := .tuple #[.agg #[.int .i64 own, .int .i64 nx, .slice va' s.length vc', .slice la' ol.length lc'], .slice ta sl.length tc]) (by simp [results, Try.f18, go_sem, q0, q1, q2, q3]) rfl ⟨_, _, rfl, ?_, ?_, hB4⟩
          · rw [Hfin.out]
            intro X hX
            refine ⟨va', vc', la', lc', ?_, ?_, ?_⟩
            · dsimp only
              rw [← Hol.out, List.length_map]
            · rcases Hstr.out.seen with h | h
              · exact h.agree (hA X hX)
              · exact IsNums.of_row (ownsRow_of_heap h fun k e => (hX k (.inr (by have := (h.lt k e).1; omega)) (by have := (h.lt k e).2; have := hz4; omega)).trans (ho4 k (by have := (h.lt k e).1; omega)))
            · dsimp only
              rw [← Hol.out, List.length_map]
              exact drs_of_row (ownsRow_of_heap hrow4 fun k e => hX k (.inr (by have := (hrow4.lt k e).1; omega)) (hrow4.lt k e).2) fun x hx => (Hst2.out.nums x (Hmem.out x hx)).agree (hA X hX)
          · rw [Hfin.out]
            intro X hX
            exact sls_of_row (ownsRow_of_heap hslots4 fun k e => hX k (.inr (by have := (hslots4.lt k e).1; omega)) (hslots4.lt k e).2) fun x hx => (Hst2.out.deps x hx).agree (hA X hX)

end Go.Proofs.Ytdkpbfigjdmfpaa
