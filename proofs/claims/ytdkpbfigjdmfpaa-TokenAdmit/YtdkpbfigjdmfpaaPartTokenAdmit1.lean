/- Own work: the parts TK14, TK15, TK24, TK22, TK19 of the proof, laid together. -/
import Derived.Test.YtdkpbfigjdmfpaaPartTokenChain9
import Derived.Test.YtdkpbfigjdmfpaaPartTokenChain10
import Derived.Test.YtdkpbfigjdmfpaaPartTokenChain2
import Derived.Deep.Cut
import Derived.Deep.DeepCutAuto
/- The laws' OfDraft, OfDrafts, Of, Few of layer 9; the reference's CheckToken. Own work; no statement. -/
set_option linter.unusedSimpArgs false
set_option linter.unusedVariables false
namespace Go.Proofs.Ytdkpbfigjdmfpaa
open Go.RowKit Go.Shelf Go.Sort

theorem six_of {W : World} {b : Nat} {v0 v1 v2 v3 v4 v5 : Value} {t : TypeId} {f : Nat × Nat} (h : W.heap[b]? = some (.cells #[v0, v1, v2, v3, v4, v5] t f)) :
    W.cell? ⟨b, 0, none⟩ = some v0 ∧ W.cell? ⟨b, 1, none⟩ = some v1 ∧ W.cell? ⟨b, 2, none⟩ = some v2 ∧ W.cell? ⟨b, 3, none⟩ = some v3 ∧ W.cell? ⟨b, 4, none⟩ = some v4 ∧ W.cell? ⟨b, 5, none⟩ = some v5 := by
  simp [World.cell?, h]
theorem four_of {W : World} {b : Nat} {v0 v1 v2 v3 : Value} {t : TypeId} {f : Nat × Nat} (h : W.heap[b]? = some (.cells #[v0, v1, v2, v3] t f)) :
    W.cell? ⟨b, 0, none⟩ = some v0 ∧ W.cell? ⟨b, 1, none⟩ = some v1 ∧ W.cell? ⟨b, 2, none⟩ = some v2 ∧ W.cell? ⟨b, 3, none⟩ = some v3 := by
  simp [World.cell?, h]

set_option maxHeartbeats 4000000 in
theorem ofDraft_calls (v : Value) (d : DrD) (w : World) (hv : IsDr w v d) :
    Calls Try.prog 16 #[v] w fun e w' => e = .returned v ∧ RowKit.Below w.heap.size w w' := by
  obtain ⟨ticket, ⟨site, seq, dep, key, val⟩⟩ := d
  obtain ⟨a, cap, rfl, hn⟩ := hv
  dsimp only at *
  obtain ⟨W0, hW0, hsz, hB0, h0, h1⟩ := new2T w #[.int .i64 ticket, .int .i64 site, .int .i64 seq, .slice a dep.length cap, .string key, .string val] #[.int .i64 0, .int .i64 0, .int .i64 0, .slice none 0 0, .string ⟨#[]⟩, .string ⟨#[]⟩] 41 46
  have COf := hide (fun V (hV : RowKit.Below w.heap.size w V) => recOfLaw_calls (.agg #[.int .i64 site, .int .i64 seq, .slice a dep.length cap, .string key, .string val]) ⟨site, seq, dep, key, val⟩ V ⟨a, cap, rfl, hn.below hV⟩)
  have HW := hide hW0
  have HB := hide hB0
  have H0 := hide h0
  have H1 := hide h1
  clear hn hW0 hB0 h0 h1 hsz
  go_enter Try.func16, Try.ntmps16
  go_upto_region 1 with fail
  rw [HW.out]
  clear HW
  refine region_begin 7 (by kernel_rfl) rfl ?_
  replace H0 := hide (show W0.drew.heap[w.heap.size]? = _ from H0.out)
  replace H1 := hide (show W0.drew.heap[w.heap.size + 1]? = _ from H1.out)
  replace HB := hide (HB.out.drew)
  generalize W0.drew = V0 at *
  refine stretchE (g := 1) 6 6 (fun X => X.cell? ⟨w.heap.size, 0, none⟩ = some (.int .i64 ticket) ∧ X.cell? ⟨w.heap.size, 1, none⟩ = some (.int .i64 site) ∧ X.cell? ⟨w.heap.size, 2, none⟩ = some (.int .i64 seq) ∧ X.cell? ⟨w.heap.size, 3, none⟩ = some (.slice a dep.length cap) ∧ X.cell? ⟨w.heap.size, 4, none⟩ = some (.string key) ∧ X.cell? ⟨w.heap.size, 5, none⟩ = some (.string val)) ?_
  refine HeadE.take 0 (.pointer (some ⟨w.heap.size, 0, none⟩)) rfl (by kernel_rfl) (.inl ⟨rfl, fun w2 _ => by go_simp⟩) (six_of H0.out) ?_
  refine HeadE.take 1 (.int .i64 ticket) rfl (by kernel_rfl) (.inl ⟨rfl, fun w2 ⟨s0, s1, s2, s3, s4, s5⟩ => by go_simp⟩) (six_of H0.out) ?_
  refine HeadE.take 2 (.pointer (some ⟨w.heap.size, 1, none⟩)) rfl (by kernel_rfl) (.inl ⟨rfl, fun w2 _ => by go_simp⟩) (six_of H0.out) ?_
  refine HeadE.take 3 (.agg #[.int .i64 site, .int .i64 seq, .slice a dep.length cap, .string key, .string val]) rfl (by kernel_rfl) (.inl ⟨rfl, fun w2 ⟨s0, s1, s2, s3, s4, s5⟩ => by go_simp⟩) (six_of H0.out) ?_
  refine HeadE.only 4 (by kernel_rfl) ?_
  refine wpOp_call rfl rfl 28 #[.agg #[.int .i64 site, .int .i64 seq, .slice a dep.length cap, .string key, .string val]] (by go_simp) (COf.out _ HB.out) ?_
  rintro e V1 ⟨rfl, hb⟩
  replace H0 := hide (keepB H0.out hb)
  replace H1 := hide (keepB H1.out hb)
  replace HB := hide (HB.out.trans (hb.mono HB.out.size))
  clear hb
  refine ⟨_, rfl, six_of H0.out, ?_⟩
  refine HeadE.take 5 (.agg #[.int .i64 ticket, .int .i64 site, .int .i64 seq, .slice a dep.length cap, .string key, .string val]) rfl (by kernel_rfl) (.inl ⟨rfl, fun w2 _ => by go_simp⟩) (six_of H0.out) ?_
  refine HeadE.fin (by kernel_rfl) ?_
  refine onlyA 6 (by kernel_rfl) ?_
  obtain ⟨d0, d1, d2, d3, d4, d5, f0, f1, f2, f3, f4, f5⟩ := cells6T H1.out
  refine wpOp_skip rfl rfl (w' := put6T V1 (w.heap.size + 1) (.int .i64 ticket) (.int .i64 site) (.int .i64 seq) (.slice a dep.length cap) (.string key) (.string val)) (by unfold put6T; go_simp) ?_
  have hst := put6T_heap H1.out (.int .i64 ticket) (.int .i64 site) (.int .i64 seq) (.slice a dep.length cap) (.string key) (.string val)
  have hbl := put6T_below HB.out (Nat.le_succ _) (.int .i64 ticket) (.int .i64 site) (.int .i64 seq) (.slice a dep.length cap) (.string key) (.string val)
  clear d0 d1 d2 d3 d4 d5 f0 f1 f2 f3 f4 f5
  generalize put6T V1 (w.heap.size + 1) (.int .i64 ticket) (.int .i64 site) (.int .i64 seq) (.slice a dep.length cap) (.string key) (.string val) = VE at *
  refine endA (by kernel_rfl) ?_
  go_simp
  obtain ⟨k0, k1, k2, k3, k4, k5, -⟩ := cells6T hst
  go_step
  go_wp2_with fail
  exact bodyPost_ret (v := .agg #[.int .i64 ticket, .int .i64 site, .int .i64 seq, .slice a dep.length cap, .string key, .string val]) (by simp [results, Try.f16, go_sem, k0, k1, k2, k3, k4, k5]) rfl ⟨rfl, hbl⟩

/-- Rows of drafts that came in, of few. -/
def fewD (l : List DrD) : Bool := decide (l.length ≤ 40) && l.all fun d => fewR d.r
set_option maxHeartbeats 4000000 in
theorem few9_calls (v : Value) (l : List DrD) (w : World) (hv : IsDrs w v l) :
    Calls Try.prog 9 #[v] w fun e w' => e = .returned (.bool (fewD l)) ∧ RowKit.Below w.heap.size w w' := by
  obtain ⟨ql, rfl, hr, hn⟩ := hv.rd
  obtain ⟨a, cap, rfl, -, -, hat⟩ := hr
  have Hat := hide hat
  have Hn := hide hn
  clear hat hn hv
  by_cases hl : 40 < (ql.length : Int)
  · have e : fewD (ql.map (·.d)) = false := by unfold fewD; rw [decide_eq_false (by simp; omega)]; rfl
    rw [e]
    go_enter Try.func9, Try.ntmps9
    go_wp2_with fail
    go_ret
    exact ⟨rfl, RowKit.Below.refl _ _⟩
  have hl2 : ql.length ≤ 40 := by omega
  obtain ⟨c, hc⟩ : ∃ c, fewD (ql.map (·.d)) = c := ⟨_, rfl⟩
  rw [hc]
  have Hc := hide hc
  clear hc
  go_enter Try.func9, Try.ntmps9
  go_wp2_with fail
  go_loopw [3] (fun i wr => ∃ k : Nat, k ≤ ql.length ∧ i = .int .i64 (k : Int) ∧ (∀ j (h : j < ql.length), j < k → fewR ql[j].d.r = true) ∧ RowKit.Below w.heap.size w wr) (fun i _ => ql.length - (intOf i).toNat)
  case atStart => exact ⟨0, Nat.zero_le _, rfl, fun j _ h => by omega, RowKit.Below.refl _ _⟩
  case round =>
    obtain ⟨k, hk, rfl, hall, hb⟩ := hrel
    have Hall := hide hall
    have Hb := hide hb
    clear hall hb
    by_cases h1 : k < ql.length
    · have h1I : (k : Int) < (ql.length : Int) := by omega
      obtain ⟨b, o, rfl, hc⟩ := Hat.out k h1
      have hnk := Hn.out ql[k] (List.getElem_mem h1)
      obtain ⟨f, hf⟩ : ∃ f, fewR ql[k].d.r = f := ⟨_, rfl⟩
      have Hf := hide hf
      obtain ⟨⟨⟨ticket, ⟨site, seq, dep, key, val⟩⟩, vd⟩, hx⟩ : ∃ x, ql[k] = x := ⟨_, rfl⟩
      rw [hx] at hc hnk hf
      dsimp only at hnk hf
      obtain ⟨da, dc, rfl⟩ := hnk.form
      have hblt : b < w.heap.size := by
        have := hc 0 (by omega)
        exact World.block_lt_of_cell? w _ (this.trans (by simp [Dv.cells]; rfl))
      have cc : ∀ j, j < 6 → wr.cell? ⟨b, o + k * 6 + j, none⟩ = _ := fun j hj => (Hb.out.cell (p := ⟨b, o + k * 6 + j, none⟩) hblt).trans (hc j hj)
      have c1 := cc 1 (by omega)
      have c2 := cc 2 (by omega)
      have c3 := cc 3 (by omega)
      have c4 := cc 4 (by omega)
      have c5 := cc 5 (by omega)
      simp only [Dv.cells, List.getElem?_cons_zero, List.getElem?_cons_succ] at c1 c2 c3 c4 c5
      have CF := hide (recFew_calls (.agg #[.int .i64 site, .int .i64 seq, .slice da dep.length dc, .string key, .string val]) ⟨site, seq, dep, key, val⟩ wr ⟨da, dc, rfl, hnk.below Hb.out⟩)
      rw [hf] at CF
      clear hx hc cc hnk hf hblt
      cases f with
      | true =>
        go_wp2_with (go_at_call 29; refine CF.out.mono ?_; rintro e w2 ⟨rfl, hb2⟩)
        refine ⟨⟨k + 1, by omega, by go_num, fun j hj hjk => ?_, Hb.out.trans (hb2.mono Hb.out.size)⟩, by simp [intOf]; omega⟩
        by_cases e : j = k
        · subst e
          exact Hf.out
        · exact Hall.out j hj (by omega)
      | false =>
        have hcf : c = false := by
          rw [← Hc.out]
          unfold fewD
          rw [decide_eq_true (by simpa using hl2), Bool.true_and, List.all_eq_false]
          exact ⟨ql[k].d, List.mem_map.2 ⟨ql[k], List.getElem_mem h1, rfl⟩, by rw [Hf.out]; decide⟩
        subst hcf
        go_wp2_with (go_at_call 29; refine CF.out.mono ?_; rintro e w2 ⟨rfl, hb2⟩)
        go_ret
        exact ⟨rfl, Hb.out.trans (hb2.mono Hb.out.size)⟩
    · have h1I : ¬ (k : Int) < (ql.length : Int) := by omega
      have hct : c = true := by
        rw [← Hc.out]
        unfold fewD
        rw [decide_eq_true (by simpa using hl2), Bool.true_and, List.all_eq_true]
        intro d hd
        obtain ⟨q, hq, rfl⟩ := List.mem_map.1 hd
        obtain ⟨j, hj, rfl⟩ := List.mem_iff_getElem.1 hq
        exact Hall.out j hj (by omega)
      subst hct
      go_wp2_with fail
      go_ret
      exact ⟨rfl, Hb.out⟩

set_option maxHeartbeats 4000000 in
theorem refCheckToken_calls (vt : Value) (t : TokD) (w : World) (ht : IsTok w vt t) (hs : t.seen.length ≤ 1099511627776) :
    Calls Try.prog 11 #[vt] w fun e w' => e = .returned (.int .i64 (checkT t)) ∧ RowKit.Below w.heap.size w w' := by
  obtain ⟨c, hc⟩ : ∃ c, checkT t = c := ⟨_, rfl⟩
  rw [hc]
  obtain ⟨own, next, seen, late⟩ := t
  obtain ⟨sa, sc, la, lc, rfl, hn, -⟩ := ht
  dsimp only at *
  unfold checkT at hc
  dsimp only at hc
  have hbx := box_below w (.cells #[.int .i64 own, .int .i64 next, .slice sa seen.length sc, .slice la late.length lc] 34)
  have CC := hide (refCheck_calls _ seen 8 (w.alloc (.cells #[.int .i64 own, .int .i64 next, .slice sa seen.length sc, .slice la late.length lc] 34)) (hn.below hbx) hs)
  have HB := hide hbx
  have Hc := hide hc
  clear hc hn hbx
  by_cases h1 : own < 0
  · have e : c = 1 := by rw [← Hc.out, if_pos (.inl h1)]
    subst e
    go_enter Try.func11, Try.ntmps11
    go_wp2_with fail
    go_ret
    exact ⟨rfl, HB.out⟩
  by_cases h2 : 8 ≤ own
  · have e : c = 1 := by rw [← Hc.out, if_pos (.inr (.inl h2))]
    subst e
    go_enter Try.func11, Try.ntmps11
    go_wp2_with fail
    go_ret
    exact ⟨rfl, HB.out⟩
  by_cases h3 : next < 0
  · have e : c = 1 := by rw [← Hc.out, if_pos (.inr (.inr h3))]
    subst e
    go_enter Try.func11, Try.ntmps11
    go_wp2_with fail
    go_ret
    exact ⟨rfl, HB.out⟩
  have e : checkL seen 8 = c := by rw [← Hc.out, if_neg (by omega)]
  rw [e] at CC
  go_enter Try.func11, Try.ntmps11
  go_wp2_with (go_at_call 31; refine CC.out.mono ?_; rintro e w2 ⟨rfl, rfl⟩)
  go_ret
  exact ⟨rfl, HB.out⟩

end Go.Proofs.Ytdkpbfigjdmfpaa

/- The laws' OfDrafts and Of of layer 9. Own work; no statement. -/
set_option linter.unusedSimpArgs false
set_option linter.unusedVariables false
namespace Go.Proofs.Ytdkpbfigjdmfpaa
open Go.RowKit Go.Shelf Go.Sort

set_option maxHeartbeats 4000000 in
theorem ofDrafts_calls (v : Value) (ql : List Dv) (w0 w : World) (hr : RdD w v ql) (hn : ∀ q ∈ ql, IsNums .i64 w0 q.vd q.d.r.dep) (h0 : RowKit.Below w0.heap.size w0 w) (hl : ql.length ≤ 1048576) :
    Calls Try.prog 19 #[v] w fun e w' => ∃ v', e = .returned v' ∧ w'.ownsRow w.heap.size 46 6 v' ql.length (ql.flatMap Dv.cells) ∧ RowKit.Below w.heap.size w w' := by
  obtain ⟨i0, hi0, hz0, hz1, hz2⟩ := info_parts Try.info46
  obtain ⟨a, cap, rfl, -, -, hat⟩ := hr
  have Hat := hide hat
  have Hn := hide hn
  have Hw0 := hide h0
  clear hat hn h0
  go_enter Try.func19, Try.ntmps19
  go_wp2_with fail
  go_loopw [3, 4] (fun v i wr => ∃ k : Nat, k ≤ ql.length ∧ i = .int .i64 (k : Int) ∧ wr.ownsRow w.heap.size 46 6 v k ((ql.take k).flatMap Dv.cells) ∧ RowKit.Below w.heap.size w wr) (fun _ i _ => ql.length - (intOf i).toNat)
  case atStart => exact ⟨0, Nat.zero_le _, rfl, World.ownsRow_nil _ _ _ _, RowKit.Below.refl _ _⟩
  case round =>
    obtain ⟨k, hk, rfl, hown, hb⟩ := hrel
    obtain ⟨ua, uc, rfl⟩ := ownsRow_slice hown
    have Hown := hide hown
    have Hb := hide hb
    clear hown hb
    by_cases h1 : k < ql.length
    · have h1I : (k : Int) < (ql.length : Int) := by omega
      obtain ⟨b, o, rfl, hc⟩ := Hat.out k h1
      have hnk := Hn.out ql[k] (List.getElem_mem h1)
      have htk : (ql.take (k + 1)).flatMap Dv.cells = (ql.take k).flatMap Dv.cells ++ ql[k].cells := by
        rw [List.take_succ_eq_append_getElem h1, List.flatMap_append]
        simp
      obtain ⟨⟨⟨ticket, ⟨site, seq, dep, key, val⟩⟩, vd⟩, hx⟩ : ∃ x, ql[k] = x := ⟨_, rfl⟩
      rw [hx] at hc hnk htk
      dsimp only at hnk
      obtain ⟨da, dc, rfl⟩ := hnk.form
      have hblt : b < w.heap.size := by
        have := hc 0 (by omega)
        exact World.block_lt_of_cell? w _ (this.trans (by simp [Dv.cells]; rfl))
      have cc : ∀ j, j < 6 → wr.cell? ⟨b, o + k * 6 + j, none⟩ = _ := fun j hj => (Hb.out.cell (p := ⟨b, o + k * 6 + j, none⟩) hblt).trans (hc j hj)
      have c0 := cc 0 (by omega)
      have c1 := cc 1 (by omega)
      have c2 := cc 2 (by omega)
      have c3 := cc 3 (by omega)
      have c4 := cc 4 (by omega)
      have c5 := cc 5 (by omega)
      simp only [Dv.cells, List.getElem?_cons_zero, List.getElem?_cons_succ, Nat.add_zero] at c0 c1 c2 c3 c4 c5
      have CF := hide (ofDraft_calls (.agg #[.int .i64 ticket, .int .i64 site, .int .i64 seq, .slice da dep.length dc, .string key, .string val]) ⟨ticket, ⟨site, seq, dep, key, val⟩⟩ wr ⟨da, dc, rfl, hnk.below (Hw0.out.trans (Hb.out.mono Hw0.out.size))⟩)
      have Htk := hide htk
      clear hx hc cc hnk hblt htk
      go_wp2_with (first | (go_at_call 16; refine CF.out.mono ?_; rintro e w2 ⟨rfl, hb2⟩; have Hown2 := hide (own_below Hown.out hb2); have Hb2 := hide (Hb.out.trans (hb2.mono Hb.out.size)); have hz2' := Hb2.out.size; clear hb2 c0 c1 c2 c3 c4 c5) | (at_builtin; refine wpList_append_own _ rfl _ _ 32 rfl w.heap.size 46 i0 _ 6 80 Try.underlying32 hi0 hz0 hz1 hz2 rfl (by decide) _ _ _ rfl (World.ownsRow.alloc Hown2.out _) ⟨_, 0, none⟩ 1 1 (Dv.cells ⟨⟨ticket, ⟨site, seq, dep, key, val⟩⟩, .slice da dep.length dc⟩) rfl rfl (cells_new rfl) (one6 rfl) (by unfold maxLen; omega) (by omega) (by simp; omega) ?_; intro v3 w3 hown3 hgrow3 _; rw [← Htk.out] at hown3; have Hb3 := hide ((Hb2.out.alloc Hb2.out.size _).grown hgrow3 (by simp; omega) (fun k hk => (Hown2.out.lt k hk).1)); have Hown3 := hide hown3; obtain ⟨g3, c3, rfl⟩ := ownsRow_succ hown3; clear hown3 hgrow3))
      exact ⟨⟨k + 1, by omega, by go_num, Hown3.out, Hb3.out⟩, by simp [intOf]; omega⟩
    · have hkk : k = ql.length := by omega
      subst hkk
      rw [List.take_length] at Hown
      go_wp2_with fail
      go_ret
      exact ⟨_, rfl, Hown.out, Hb.out⟩

set_option maxHeartbeats 4000000 in
theorem ofTok_calls (vt : Value) (t : TokD) (w : World) (ht : IsTok w vt t) (hl : t.late.length ≤ 1048576) :
    Calls Try.prog 12 #[vt] w fun e w' => ∃ v', e = .returned v' ∧ IsTok w' v' t ∧ RowKit.Below w.heap.size w w' := by
  obtain ⟨own, next, seen, late⟩ := t
  obtain ⟨sa, sc, la, lc, rfl, hn, hlate⟩ := ht
  dsimp only at *
  obtain ⟨W0, hW0, hsz, hB0, h0, h1⟩ := new2T w #[.int .i64 own, .int .i64 next, .slice sa seen.length sc, .slice la late.length lc] #[.int .i64 0, .int .i64 0, .slice none 0 0, .slice none 0 0] 26 34
  obtain ⟨ql, hq, hr, hqn⟩ := hlate.rd
  have hqL : ql.length = late.length := by rw [← hq, List.length_map]
  have COf := hide (fun V (hV : RowKit.Below w.heap.size w V) => ofDrafts_calls (.slice la late.length lc) ql w V (hr.below hV) hqn hV (by omega))
  rw [hqL] at COf
  have HqL := hide hqL
  have Hq := hide hq
  have Hqn := hide hqn
  clear hqL hq hqn hr
  have HW := hide hW0
  have HB := hide hB0
  have H0 := hide h0
  have H1 := hide h1
  have Hn := hide hn
  clear hn hW0 hB0 h0 h1 hsz hlate
  go_enter Try.func12, Try.ntmps12
  go_upto_region 1 with fail
  rw [HW.out]
  clear HW
  refine region_begin 11 (by kernel_rfl) rfl ?_
  replace H0 := hide (show W0.drew.heap[w.heap.size]? = _ from H0.out)
  replace H1 := hide (show W0.drew.heap[w.heap.size + 1]? = _ from H1.out)
  replace HB := hide (HB.out.drew)
  generalize W0.drew = V0 at *
  refine stretchE (g := 1) 10 10 (fun X => X.cell? ⟨w.heap.size, 0, none⟩ = some (.int .i64 own) ∧ X.cell? ⟨w.heap.size, 1, none⟩ = some (.int .i64 next) ∧ X.cell? ⟨w.heap.size, 2, none⟩ = some (.slice sa seen.length sc) ∧ X.cell? ⟨w.heap.size, 3, none⟩ = some (.slice la late.length lc)) ?_
  refine HeadE.take 0 (.pointer (some ⟨w.heap.size, 0, none⟩)) rfl (by kernel_rfl) (.inl ⟨rfl, fun w2 _ => by go_simp⟩) (four_of H0.out) ?_
  refine HeadE.take 1 (.int .i64 own) rfl (by kernel_rfl) (.inl ⟨rfl, fun w2 ⟨s0, s1, s2, s3⟩ => by go_simp⟩) (four_of H0.out) ?_
  refine HeadE.take 2 (.pointer (some ⟨w.heap.size, 1, none⟩)) rfl (by kernel_rfl) (.inl ⟨rfl, fun w2 _ => by go_simp⟩) (four_of H0.out) ?_
  refine HeadE.take 3 (.int .i64 next) rfl (by kernel_rfl) (.inl ⟨rfl, fun w2 ⟨s0, s1, s2, s3⟩ => by go_simp⟩) (four_of H0.out) ?_
  refine HeadE.take 4 (.pointer (some ⟨w.heap.size, 2, none⟩)) rfl (by kernel_rfl) (.inl ⟨rfl, fun w2 _ => by go_simp⟩) (four_of H0.out) ?_
  refine HeadE.take 5 (.slice sa seen.length sc) rfl (by kernel_rfl) (.inl ⟨rfl, fun w2 ⟨s0, s1, s2, s3⟩ => by go_simp⟩) (four_of H0.out) ?_
  refine HeadE.take 6 (.pointer (some ⟨w.heap.size, 3, none⟩)) rfl (by kernel_rfl) (.inl ⟨rfl, fun w2 _ => by go_simp⟩) (four_of H0.out) ?_
  refine HeadE.take 7 (.slice la late.length lc) rfl (by kernel_rfl) (.inl ⟨rfl, fun w2 ⟨s0, s1, s2, s3⟩ => by go_simp⟩) (four_of H0.out) ?_
  refine HeadE.only 8 (by kernel_rfl) ?_
  refine wpOp_call rfl rfl 19 #[.slice la late.length lc] (by go_simp) (COf.out _ HB.out) ?_
  rintro e V1 ⟨lv, rfl, hlv, hb⟩
  have hVs := ltB H1.out
  obtain ⟨la', lc', rfl⟩ := ownsRow_slice hlv
  replace H0 := hide (keepB H0.out hb)
  replace H1 := hide (keepB H1.out hb)
  replace HB := hide (HB.out.trans (hb.mono HB.out.size))
  have Hlv := hide hlv
  clear hb hlv
  refine ⟨_, rfl, four_of H0.out, ?_⟩
  refine HeadE.take 9 (.agg #[.int .i64 own, .int .i64 next, .slice sa seen.length sc, .slice la' late.length lc']) rfl (by kernel_rfl) (.inl ⟨rfl, fun w2 _ => by go_simp⟩) (four_of H0.out) ?_
  refine HeadE.fin (by kernel_rfl) ?_
  refine onlyA 10 (by kernel_rfl) ?_
  obtain ⟨d0, d1, d2, d3, f0, f1, f2, f3⟩ := cells4T H1.out
  refine wpOp_skip rfl rfl (w' := put4T V1 (w.heap.size + 1) (.int .i64 own) (.int .i64 next) (.slice sa seen.length sc) (.slice la' late.length lc')) (by unfold put4T; go_simp) ?_
  have hst := put4T_heap H1.out (.int .i64 own) (.int .i64 next) (.slice sa seen.length sc) (.slice la' late.length lc')
  have hbl := put4T_below HB.out (Nat.le_succ _) (.int .i64 own) (.int .i64 next) (.slice sa seen.length sc) (.slice la' late.length lc')
  have hrow := ownsRow_of_heap (W' := put4T V1 (w.heap.size + 1) (.int .i64 own) (.int .i64 next) (.slice sa seen.length sc) (.slice la' late.length lc')) Hlv.out fun k e => put4T_other k (by have := (Hlv.out.lt k e).1; omega) _ _ _ _
  clear d0 d1 d2 d3 f0 f1 f2 f3
  generalize put4T V1 (w.heap.size + 1) (.int .i64 own) (.int .i64 next) (.slice sa seen.length sc) (.slice la' late.length lc') = VE at *
  have hdr := drs_of_row (HqL.out ▸ hrow) fun q hq => (Hqn.out q hq).below hbl
  rw [Hq.out, HqL.out] at hdr
  have HR := hide (show IsTok VE (.agg #[.int .i64 own, .int .i64 next, .slice sa seen.length sc, .slice la' late.length lc']) ⟨own, next, seen, late⟩ from ⟨_, _, _, _, rfl, Hn.out.below hbl, hdr⟩)
  clear hrow hdr
  refine endA (by kernel_rfl) ?_
  go_simp
  obtain ⟨k0, k1, k2, k3, -⟩ := cells4T hst
  go_step
  go_wp2_with fail
  exact bodyPost_ret (v := .agg #[.int .i64 own, .int .i64 next, .slice sa seen.length sc, .slice la' late.length lc']) (by simp [results, Try.f12, go_sem, k0, k1, k2, k3]) rfl ⟨_, rfl, HR.out, hbl⟩

end Go.Proofs.Ytdkpbfigjdmfpaa

/- Of answers a row of its own. Own work; no statement. -/
set_option linter.unusedSimpArgs false
set_option linter.unusedVariables false
namespace Go.Proofs.Ytdkpbfigjdmfpaa
open Go.RowKit Go.Shelf Go.Sort

set_option maxHeartbeats 4000000 in
theorem ofTokR_calls (own next : Int) (seen : List Int) (sa : Option Addr) (sc : Nat) (la : Option Addr) (lc : Nat) (late : List DrD) (ql : List Dv) (w0 w : World) (hr : RdD w (.slice la late.length lc) ql) (hq : ql.map (·.d) = late) (hqn : ∀ q ∈ ql, IsNums .i64 w0 q.vd q.d.r.dep) (h0w : RowKit.Below w0.heap.size w0 w) (hl : late.length ≤ 1048576) :
    Calls Try.prog 12 #[.agg #[.int .i64 own, .int .i64 next, .slice sa seen.length sc, .slice la late.length lc]] w fun e w' => ∃ la' lc', e = .returned (.agg #[.int .i64 own, .int .i64 next, .slice sa seen.length sc, .slice la' ql.length lc']) ∧ w'.ownsRow (w.heap.size + 2) 46 6 (.slice la' ql.length lc') ql.length (ql.flatMap Dv.cells) ∧ RowKit.Below w.heap.size w w' := by
  obtain ⟨W0, hW0, hsz, hB0, h0, h1⟩ := new2T w #[.int .i64 own, .int .i64 next, .slice sa seen.length sc, .slice la late.length lc] #[.int .i64 0, .int .i64 0, .slice none 0 0, .slice none 0 0] 26 34
  have hqL : ql.length = late.length := by rw [← hq, List.length_map]
  have COf := hide (fun V (hV : RowKit.Below w.heap.size w V) => ofDrafts_calls (.slice la late.length lc) ql w0 V (hr.below hV) hqn (h0w.trans (hV.mono h0w.size)) (by omega))
  rw [hqL] at COf
  have HqL := hide hqL
  clear hqL hq hqn hr h0w
  have HW := hide hW0
  have HB := hide hB0
  have H0 := hide h0
  have H1 := hide h1
  have Hsz := hide hsz
  clear hW0 hB0 h0 h1 hsz
  go_enter Try.func12, Try.ntmps12
  go_upto_region 1 with fail
  rw [HW.out]
  clear HW
  refine region_begin 11 (by kernel_rfl) rfl ?_
  replace H0 := hide (show W0.drew.heap[w.heap.size]? = _ from H0.out)
  replace H1 := hide (show W0.drew.heap[w.heap.size + 1]? = _ from H1.out)
  replace HB := hide (HB.out.drew)
  generalize W0.drew = V0 at *
  refine stretchE (g := 1) 10 10 (fun X => X.cell? ⟨w.heap.size, 0, none⟩ = some (.int .i64 own) ∧ X.cell? ⟨w.heap.size, 1, none⟩ = some (.int .i64 next) ∧ X.cell? ⟨w.heap.size, 2, none⟩ = some (.slice sa seen.length sc) ∧ X.cell? ⟨w.heap.size, 3, none⟩ = some (.slice la late.length lc)) ?_
  refine HeadE.take 0 (.pointer (some ⟨w.heap.size, 0, none⟩)) rfl (by kernel_rfl) (.inl ⟨rfl, fun w2 _ => by go_simp⟩) (four_of H0.out) ?_
  refine HeadE.take 1 (.int .i64 own) rfl (by kernel_rfl) (.inl ⟨rfl, fun w2 ⟨s0, s1, s2, s3⟩ => by go_simp⟩) (four_of H0.out) ?_
  refine HeadE.take 2 (.pointer (some ⟨w.heap.size, 1, none⟩)) rfl (by kernel_rfl) (.inl ⟨rfl, fun w2 _ => by go_simp⟩) (four_of H0.out) ?_
  refine HeadE.take 3 (.int .i64 next) rfl (by kernel_rfl) (.inl ⟨rfl, fun w2 ⟨s0, s1, s2, s3⟩ => by go_simp⟩) (four_of H0.out) ?_
  refine HeadE.take 4 (.pointer (some ⟨w.heap.size, 2, none⟩)) rfl (by kernel_rfl) (.inl ⟨rfl, fun w2 _ => by go_simp⟩) (four_of H0.out) ?_
  refine HeadE.take 5 (.slice sa seen.length sc) rfl (by kernel_rfl) (.inl ⟨rfl, fun w2 ⟨s0, s1, s2, s3⟩ => by go_simp⟩) (four_of H0.out) ?_
  refine HeadE.take 6 (.pointer (some ⟨w.heap.size, 3, none⟩)) rfl (by kernel_rfl) (.inl ⟨rfl, fun w2 _ => by go_simp⟩) (four_of H0.out) ?_
  refine HeadE.take 7 (.slice la late.length lc) rfl (by kernel_rfl) (.inl ⟨rfl, fun w2 ⟨s0, s1, s2, s3⟩ => by go_simp⟩) (four_of H0.out) ?_
  refine HeadE.only 8 (by kernel_rfl) ?_
  refine wpOp_call rfl rfl 19 #[.slice la late.length lc] (by go_simp) (COf.out _ HB.out) ?_
  rintro e V1 ⟨lv, rfl, hlv, hb⟩
  have hVs := ltB H1.out
  obtain ⟨la', lc', rfl⟩ := ownsRow_slice hlv
  replace H0 := hide (keepB H0.out hb)
  replace H1 := hide (keepB H1.out hb)
  replace HB := hide (HB.out.trans (hb.mono HB.out.size))
  have Hlv := hide hlv
  clear hb hlv
  refine ⟨_, rfl, four_of H0.out, ?_⟩
  refine HeadE.take 9 (.agg #[.int .i64 own, .int .i64 next, .slice sa seen.length sc, .slice la' late.length lc']) rfl (by kernel_rfl) (.inl ⟨rfl, fun w2 _ => by go_simp⟩) (four_of H0.out) ?_
  refine HeadE.fin (by kernel_rfl) ?_
  refine onlyA 10 (by kernel_rfl) ?_
  obtain ⟨d0, d1, d2, d3, f0, f1, f2, f3⟩ := cells4T H1.out
  refine wpOp_skip rfl rfl (w' := put4T V1 (w.heap.size + 1) (.int .i64 own) (.int .i64 next) (.slice sa seen.length sc) (.slice la' late.length lc')) (by unfold put4T; go_simp) ?_
  have hst := put4T_heap H1.out (.int .i64 own) (.int .i64 next) (.slice sa seen.length sc) (.slice la' late.length lc')
  have hbl := put4T_below HB.out (Nat.le_succ _) (.int .i64 own) (.int .i64 next) (.slice sa seen.length sc) (.slice la' late.length lc')
  have hrow := ownsRow_of_heap (W' := put4T V1 (w.heap.size + 1) (.int .i64 own) (.int .i64 next) (.slice sa seen.length sc) (.slice la' late.length lc')) Hlv.out fun k e => put4T_other k (by have := (Hlv.out.lt k e).1; omega) _ _ _ _
  clear d0 d1 d2 d3 f0 f1 f2 f3
  generalize put4T V1 (w.heap.size + 1) (.int .i64 own) (.int .i64 next) (.slice sa seen.length sc) (.slice la' late.length lc') = VE at *
  have HR := hide hrow
  have HBE := hide hbl
  rw [← HqL.out]
  clear hrow hbl
  refine endA (by kernel_rfl) ?_
  go_simp
  obtain ⟨k0, k1, k2, k3, -⟩ := cells4T hst
  go_step
  go_wp2_with fail
  exact bodyPost_ret (v := .agg #[.int .i64 own, .int .i64 next, .slice sa seen.length sc, .slice la' late.length lc']) (by simp [results, Try.f12, go_sem, k0, k1, k2, k3]) rfl ⟨_, _, by rw [HqL.out], by rw [HqL.out]; exact ownsRow_low HR.out (by omega), HBE.out⟩


end Go.Proofs.Ytdkpbfigjdmfpaa

/- The reference's without of layer 9. Own work; no statement. -/
set_option linter.unusedSimpArgs false
set_option linter.unusedVariables false
namespace Go.Proofs.Ytdkpbfigjdmfpaa
open Go.RowKit Go.Shelf Go.Sort

theorem RdD.front {w : World} {a : Option Addr} {cap : Nat} {l : List Dv} (h : RdD w (.slice a l.length cap) l) (i : Nat) (hi : i ≤ l.length) : RdD w (.slice a i cap) (l.take i) := by
  obtain ⟨a', cap', e, hc, h0, h⟩ := h
  cases e
  have hl : (l.take i).length = i := by rw [List.length_take]; omega
  refine ⟨a, cap, by rw [hl], by omega, h0, fun t ht => ?_⟩
  rw [hl] at ht
  obtain ⟨b, o, e, hr⟩ := h t (by omega)
  refine ⟨b, o, e, ?_⟩
  rw [List.getElem_take]
  exact hr
theorem RdD.back {w : World} {b o cap : Nat} {l : List Dv} (h : RdD w (.slice (some ⟨b, o, none⟩) l.length cap) l) (i : Nat) (hi : i ≤ l.length) : RdD w (.slice (some ⟨b, o + i * 6, none⟩) (l.length - i) (cap - i)) (l.drop i) := by
  obtain ⟨a', cap', e, hc, h0, h⟩ := h
  cases e
  refine ⟨_, _, by rw [List.length_drop], by rw [List.length_drop]; omega, (fun e => by cases e), fun t ht => ?_⟩
  rw [List.length_drop] at ht
  obtain ⟨b', o', e, hr⟩ := h (i + t) (by omega)
  cases e
  refine ⟨b, o + i * 6, rfl, fun j hj => ?_⟩
  rw [List.getElem_drop, show o + i * 6 + t * 6 + j = o + (i + t) * 6 + j by omega]
  exact hr j hj
theorem RdD.at0 {w : World} {v : Value} {l : List Dv} (h : RdD w v l) (h0 : 0 < l.length) : ∃ b o cap, v = .slice (some ⟨b, o, none⟩) l.length cap ∧ l.length ≤ cap := by
  obtain ⟨a, cap, rfl, hc, -, h⟩ := h
  obtain ⟨b, o, rfl, -⟩ := h 0 h0
  exact ⟨b, o, cap, rfl, hc⟩
theorem RdD.none0 (w : World) (a : Addr) : RdD w (.slice (some a) 0 0) [] := ⟨some a, 0, rfl, Nat.le_refl _, (fun e => by cases e), fun t h => absurd h (Nat.not_lt_zero t)⟩

set_option maxHeartbeats 2000000 in
theorem refWithout_calls (v : Value) (ql : List Dv) (k : Nat) (w : World) (hk : k < ql.length) (hr : RdD w v ql) (h1 : ∀ q ∈ ql, ∃ a n c, q.vd = .slice a n c) (hl : ql.length ≤ 1048576) :
    Calls Try.prog 39 #[v, .int .i64 (k : Int)] w fun e w' => ∃ v', e = .returned v' ∧ w'.ownsRow w.heap.size 46 6 v' (ql.eraseIdx k).length ((ql.eraseIdx k).flatMap Dv.cells) ∧ RowKit.Below w.heap.size w w' := by
  obtain ⟨i0, hi0, hz0, hz1, hz2⟩ := info_parts Try.info46
  obtain ⟨b, o, cap, rfl, hcap⟩ := hr.at0 (by omega)
  have hlit : (w.alloc (.cells #[] 46)).ownsRow w.heap.size 46 6 (.slice (some ⟨w.heap.size, 0, none⟩) 0 0) 0 [] := World.ownsRow_lit w #[] 0 (Nat.le_refl _) (by unfold maxLen; omega) rfl
  have hbz := box_below w (.cells #[] 46)
  have HF := hide ((hr.below hbz).front k (by omega))
  have Hr := hide hr
  have Hlit := hide hlit
  have HT : Hid (∀ q ∈ ql.take k, ∃ a n c, q.vd = .slice a n c) := hide fun q hq => h1 q (List.mem_of_mem_take hq)
  have HD : Hid (∀ q ∈ ql.drop (k + 1), ∃ a n c, q.vd = .slice a n c) := hide fun q hq => h1 q (List.mem_of_mem_drop hq)
  have HEl : Hid ((ql.eraseIdx k).length = k + (ql.length - (k + 1))) := hide (by rw [List.length_eraseIdx, if_pos hk]; omega)
  have HE : Hid ((ql.eraseIdx k).flatMap Dv.cells = (ql.take k).flatMap Dv.cells ++ (ql.drop (k + 1)).flatMap Dv.cells) := hide (by rw [List.eraseIdx_eq_take_drop_succ, List.flatMap_append])
  have Hbz := hide hbz
  have htl : (ql.take k).length = k := by rw [List.length_take]; omega
  have hdl : (ql.drop (k + 1)).length = ql.length - (k + 1) := List.length_drop
  have Htl := hide htl
  have Hdl := hide hdl
  have hkI : ((k : Int)) ≤ (cap : Int) := by omega
  have hkn : (k : Int) + 1 ≤ (ql.length : Int) := by omega
  have hkc : (k : Int) + 1 ≤ (cap : Int) := by omega
  have hbase : w.heap.size ≤ (w.alloc (.cells #[] 46)).heap.size := by simp
  clear hr h1 hlit hbz htl hdl
  go_enter Try.func39, Try.ntmps39
  go_upto_region 2 with (at_builtin; refine wpList_append_srcT rfl _ _ 32 rfl w.heap.size 46 i0 _ 80 Try.underlying32 hi0 hz0 hz1 hz2 rfl _ _ _ rfl Hlit.out _ (ql.take k) rfl HF.out HT.out (by unfold maxLen; rw [Htl.out]; omega) (by rw [Htl.out]; omega) hbase ?_; intro v1 w1 hown1 hgrow1)
  rw [Htl.out, Nat.zero_add, List.nil_append] at hown1
  have HB1 := hide (Hbz.out.grown hgrow1 hbase fun j hj => (Hlit.out.lt j hj).1)
  have Hown1 := hide hown1
  have HBk := hide ((Hr.out.below HB1.out).back (k + 1) (by omega))
  have hbase1 := HB1.out.size
  obtain ⟨g1, c1, rfl⟩ := ownsRow_slice hown1
  have Hr1 := hide (Hr.out.below HB1.out)
  clear hown1 hgrow1 HF HT Hlit Hbz Hr hbase
  by_cases hc : cap = k + 1
  · obtain ⟨n, hn⟩ : ∃ n, ql.length = n := ⟨_, rfl⟩
    have hnk : n = k + 1 := by omega
    have hd0 : ql.drop (k + 1) = [] := List.eq_nil_of_length_eq_zero (by rw [Hdl.out]; omega)
    have HN := hide (RdD.none0 w1 ⟨b, o, none⟩)
    rw [hd0] at HE
    have Hel : Hid ((ql.eraseIdx k).length = k + 0) := hide (by rw [HEl.out]; omega)
    rw [hn] at *
    subst hnk
    subst hc
    clear hn hd0 HEl Htl Hdl HBk Hr1 HD
    go_wp2_with (at_builtin; refine wpList_append_srcT rfl _ _ 32 rfl w.heap.size 46 i0 _ 80 Try.underlying32 hi0 hz0 hz1 hz2 rfl _ _ _ rfl Hown1.out _ [] rfl HN.out (fun q h => by cases h) (by unfold maxLen; simp; omega) (by simp; omega) hbase1 ?_; intro v2 w2 hown2 hgrow2)
    go_ret
    exact ⟨_, rfl, by rw [Hel.out, HE.out]; exact hown2, HB1.out.grown hgrow2 hbase1 fun j hj => (Hown1.out.lt j hj).1⟩
  · have hc' : ¬ (cap : Int) = (k : Int) + 1 := by omega
    have Hd1 : Hid ((ql.drop (k + 1)).length ≤ 1048576) := hide (by rw [Hdl.out]; omega)
    have hc'' : ¬ cap = k + 1 := hc
    clear Hr1
    go_wp2_with (at_builtin; refine wpList_append_srcT rfl _ _ 32 rfl w.heap.size 46 i0 _ 80 Try.underlying32 hi0 hz0 hz1 hz2 rfl _ _ _ rfl Hown1.out _ (ql.drop (k + 1)) rfl HBk.out HD.out (by have := Hd1.out; unfold maxLen; omega) (by have := Hd1.out; omega) hbase1 ?_; intro v2 w2 hown2 hgrow2)
    go_ret
    exact ⟨_, rfl, by rw [HEl.out, HE.out, ← Hdl.out]; exact hown2, HB1.out.grown hgrow2 hbase1 fun j hj => (Hown1.out.lt j hj).1⟩

end Go.Proofs.Ytdkpbfigjdmfpaa

/- The reference's May of layer 9. Own work; no statement. -/
set_option linter.unusedSimpArgs false
set_option linter.unusedVariables false
namespace Go.Proofs.Ytdkpbfigjdmfpaa
open Go.RowKit Go.Shelf Go.Sort

set_option maxHeartbeats 4000000 in
theorem refMay_calls (vt vd : Value) (t : TokD) (d : DrD) (w : World) (ht : IsTok w vt t) (hd : IsDr w vd d) (hs : SeenOk t.seen) (hdl : d.r.dep.length ≤ 1099511627776) :
    Calls Try.prog 15 #[vt, vd] w fun e w' => e = .returned (.bool (mayD t.own t.seen d)) ∧ RowKit.Below w.heap.size w w' := by
  obtain ⟨c, hc⟩ : ∃ c, mayD t.own t.seen d = c := ⟨_, rfl⟩
  rw [hc]
  unfold mayD at hc
  have hl := hs.len
  obtain ⟨own, next, seen, late⟩ := t
  obtain ⟨ticket, ⟨site, seq, dep, key, val⟩⟩ := d
  obtain ⟨sa, sc, la, lc, rfl, hn, -⟩ := ht
  obtain ⟨a, cap, rfl, hm⟩ := hd
  dsimp only at *
  have hg0 := hs.rng own
  have hg1 := hs.rng site
  obtain ⟨W0, hW0, hsz, hB0, h0, h1, h2⟩ := new3T w #[.int .i64 own, .int .i64 next, .slice sa seen.length sc, .slice la late.length lc] #[.int .i64 ticket, .int .i64 site, .int .i64 seq, .slice a dep.length cap, .string key, .string val] #[.int .i64 site, .int .i64 seq, .slice a dep.length cap, .string key, .string val] 34 46 44
  have CG0 := hide (refGet_calls _ seen own W0 (hn.below hB0) (by omega))
  have CG1 := hide (fun nq => refGet_calls _ seen site (W0.drewN nq) ((hn.below hB0).below (drewsB W0 nq)) (by omega))
  have CC0 := hide (refCovers_calls _ _ seen dep W0 (hn.below hB0) (hm.below hB0) (by omega) hdl)
  have CC1 := hide (fun nq => refCovers_calls _ _ seen dep (W0.drewN nq) ((hn.below hB0).below (drewsB W0 nq)) ((hm.below hB0).below (drewsB W0 nq)) (by omega) hdl)
  obtain ⟨g, hgg⟩ : ∃ g, geti seen own = g := ⟨_, rfl⟩
  obtain ⟨g', hgg'⟩ : ∃ g, geti seen site = g := ⟨_, rfl⟩
  obtain ⟨cv, hcv⟩ : ∃ c, everyB covB seen dep = c := ⟨_, rfl⟩
  rw [hgg] at CG0 hg0
  rw [hgg'] at CG1 hg1
  rw [hcv] at CC0 CC1
  rw [hgg, hgg', hcv] at hc
  have HW := hide hW0
  have HB := hide hB0
  obtain ⟨x0, x1, x2, x3, -⟩ := cells4T h0
  obtain ⟨r0, r1, r2⟩ : W0.cell? ⟨w.heap.size + 2, 0, none⟩ = some (.int .i64 site) ∧ W0.cell? ⟨w.heap.size + 2, 1, none⟩ = some (.int .i64 seq) ∧ W0.cell? ⟨w.heap.size + 2, 2, none⟩ = some (.slice a dep.length cap) := by simp [World.cell?, h2]
  have Hc := hide hc
  clear hW0 hB0 h0 h1 h2 hsz hn hm hs hc hgg hgg' hcv
  by_cases hso : site = own
  · have hc1 := Hc.out
    rw [if_pos hso] at hc1
    subst hso
    by_cases hq : seq = 0
    · subst hq
      by_cases hg : g < 1048576
      · go_enter Try.func15, Try.ntmps15
        go_upto_region 2 with fail
        rw [HW.out]
        go_wp2_with (first | (go_at_call 22; refine CG0.out.mono ?_; rintro e w2 ⟨rfl, rfl⟩) | (go_at_call 23; refine CC0.out.mono ?_; rintro e w2 ⟨rfl, rfl⟩))
        go_ret
        exact ⟨by rw [← hc1]; simp [hg], HB.out⟩
      · go_enter Try.func15, Try.ntmps15
        go_upto_region 2 with fail
        rw [HW.out]
        go_wp2_with (first | (go_at_call 22; refine CG0.out.mono ?_; rintro e w2 ⟨rfl, rfl⟩) | (go_at_call 23; refine CC0.out.mono ?_; rintro e w2 ⟨rfl, rfl⟩))
        go_ret
        exact ⟨by rw [← hc1, decide_eq_false (Int.not_lt.2 hg)]; simp, HB.out⟩
    · have hqb : (seq == 0) = false := by simpa using hq
      go_enter Try.func15, Try.ntmps15
      go_upto_region 2 with fail
      rw [HW.out]
      go_wp2_with fail
      go_ret
      exact ⟨by rw [← hc1]; simp [hq], HB.out⟩
  · have hc1 := Hc.out
    rw [if_neg hso] at hc1
    have hsb : (site == own) = false := by simpa using hso
    by_cases hq : seq = g' + 1
    · have hqb : (seq == g' + 1) = true := by simpa using hq
      have Hq := hide hq
      clear hq
      go_enter Try.func15, Try.ntmps15
      go_upto_region 2 with fail
      rw [HW.out]
      go_upto_region 4 with fail
      go_quiet (first | (go_at_call 22; refine Calls.quiet_of_same (CG1.out _)) | (go_at_call 23; refine Calls.quiet_of_same (CC1.out _)))
      go_wp2_with fail
      go_ret
      exact ⟨by rw [← hc1, Hq.out]; simp, HB.out.trans ((drewsB W0 nq).mono HB.out.size)⟩
    · have hqb : (seq == g' + 1) = false := by simpa using hq
      have Hq := hide hq
      clear hq
      go_enter Try.func15, Try.ntmps15
      go_upto_region 2 with fail
      rw [HW.out]
      go_upto_region 4 with fail
      go_quiet (first | (go_at_call 22; refine Calls.quiet_of_same (CG1.out _)) | (go_at_call 23; refine Calls.quiet_of_same (CC1.out _)))
      go_wp2_with fail
      go_ret
      exact ⟨by rw [← hc1]; simp [Hq.out], HB.out.trans ((drewsB W0 nq).mono HB.out.size)⟩

end Go.Proofs.Ytdkpbfigjdmfpaa
