/- filter's Put. Own work; no statement. -/
import Derived.Test.YtompaldhnbcikaaF5
set_option linter.unusedSimpArgs false
set_option linter.unusedVariables false
namespace Go.Proofs.Ytompaldhnbcikaa
open Go.RowKit Go.Shelf Go.Sort

theorem Below_of_drew {W w' : World} (h : RowKit.Below W.heap.size W.drew w') : RowKit.Below W.heap.size W w' := ((RowKit.Below.refl _ W).drew).trans h
/-- One more held. -/
theorem fil_put {w : World} {p b : Nat} {F : FilD} {v : Value} {r : RecD} (hf : IsFil w p b F) (hv : OwnRec 0 w v r) (he : putE F r = 0) :
    ∃ w', (Instr.mapUpdate 67 (.map (some b)) (.int .i64 r.seq) v).run Try.prog w = .ok () w' ∧ IsFil w' p b (putF F r) ∧ Touch (fun x => x = b) w w' := by
  obtain ⟨M, m1, m2, m3⟩ := hf.held
  have hne := (putE_ok he).2.2.1
  obtain ⟨w', h1, h2, h3⟩ := map_update (P := Try.prog) Try.underlying67 Try.underlying3 r.seq v m2 (fun x hx => by
    obtain ⟨y, hy, rfl⟩ := List.mem_map.1 hx
    exact hne y.1 (by rw [← m1]; exact List.mem_map.2 ⟨y, hy, rfl⟩))
  have hk : ∀ (k : Nat) (c : Array Value), w.heap[k]? = some (.cells c 3 (0, 0)) → w'.heap[k]? = w.heap[k]? := fun k c e => h3.block k (ltAt e) (by rintro rfl; exact m2.not_cells e)
  refine ⟨w', h1, ⟨putF_ok hf.ok r, ?_, M ++ [(r, v)], ?_, ?_, ?_⟩, h3⟩
  · rw [show putF F r = ⟨F.site, F.room, F.next, F.L ++ [r]⟩ from if_pos he]
    exact (h3.block p hf.lt hf.ne).trans hf.head
  · rw [show putF F r = ⟨F.site, F.room, F.next, F.L ++ [r]⟩ from if_pos he]
    simp [m1]
  · simpa using h2
  · intro x hx
    rcases List.mem_append.1 hx with hx | hx
    · exact (m3 x hx).keep hk
    · rw [List.mem_singleton.1 hx]
      exact hv.keep hk

theorem putF_no {F : FilD} {r : RecD} {c : Int} (h : putE F r = c) (hc : c ≠ 0) : putF F r = F := if_neg (by rw [h]; exact hc)

set_option maxHeartbeats 4000000 in
set_option maxRecDepth 100000 in
theorem filPut_calls (p b : Nat) (F : FilD) (v : Value) (r : RecD) (c : Int) (G : FilD) (hc : putE F r = c) (hG : putF F r = G) (w : World) (hf : IsFil w p b F) (hv : IsRec w v r) (hl : r.dep.length ≤ 1099511627776) (hk : r.key.size ≤ 1099511627776) (hvl : r.val.size ≤ 1099511627776) :
    Calls Try.prog 12 #[.pointer (some ⟨p, 0, none⟩), v] w fun e w' => e = .returned (.int .i64 c) ∧ IsFil w' p b G ∧ Touch (onFil p b) w w' := by
  have hok := hide (putF_ok hf.ok r)
  rw [hG] at hok
  have hb1 := hf.ok.next0
  have hb2 := hf.ok.next1
  have hb3 := hf.ok.room0
  have hb4 := hf.ok.room1
  have C := hide (fun w hv => recCheck_calls v r 8 w hv hl hk hvl)
  have O := hide (fun w hv => filOwned_calls v r w hv (by omega) hk hvl)
  have HV := hide hv
  have HF := hide hf
  obtain ⟨site, seq, dep, key, val⟩ := r
  obtain ⟨a, cap, rfl, hn⟩ := hv
  dsimp only at *
  have HE := hide hc
  unfold putE at hc
  dsimp only at hc
  have hsite : checkR ⟨site, seq, dep, key, val⟩ 8 = 0 → 1 ≤ seq ∧ seq ≤ 1048576 := fun h => ⟨(good_of h).2.2.1, (good_of h).2.2.2.1⟩
  obtain ⟨q, hq⟩ : ∃ q, checkR ⟨site, seq, dep, key, val⟩ 8 = q := ⟨_, rfl⟩
  rw [hq] at hc C hsite
  replace hsite := hide hsite
  replace hG := hide hG
  replace hq := hide hq
  clear hn hf
  have hob0 := box_below w (.cells #[.int .i64 site, .int .i64 seq, .slice a dep.length cap, .string key, .string val] 35)
  have e0 := World.alloc_heap_new w (.cells #[.int .i64 site, .int .i64 seq, .slice a dep.length cap, .string key, .string val] 35)
  obtain ⟨W0, hW0⟩ : ∃ W0, w.alloc (.cells #[.int .i64 site, .int .i64 seq, .slice a dep.length cap, .string key, .string val] 35) = W0 := ⟨_, rfl⟩
  rw [hW0] at hob0 e0
  have hb0 := hide hob0
  have E0 := hide e0
  have HW := hide hW0
  clear hW0 hob0 e0
  have hend : ∀ w', Below w.heap.size w w' → G = F → IsFil w' p b G ∧ Touch (onFil p b) w w' := fun w' h1 h2 => ⟨by rw [h2]; exact HF.out.keep h1, touch_new h1⟩
  replace hend := hide hend
  by_cases h0 : q = 0
  case neg =>
    rw [if_neg h0] at hc
    subst hc
    have hGF := hide (hG.out.symm.trans (putF_no (F := F) (r := ⟨site, seq, dep, key, val⟩) (by unfold putE; rw [hq.out, if_neg h0]) h0))
    go_enter Try.func12, Try.ntmps12
    go_wp2_with fail
    rw [HW.out]
    refine (C.out _ (HV.out.below hb0.out)).mono ?_
    rintro e w1 ⟨rfl, hw1⟩
    go_wp2_with fail
    go_ret
    exact ⟨rfl, hend.out _ (hb0.out.trans (hw1.mono hb0.out.size)) hGF.out⟩
  subst h0
  rw [if_pos rfl] at hc
  by_cases h1 : site = F.site
  case neg =>
    rw [if_neg h1] at hc
    subst hc
    have hGF := hide (hG.out.symm.trans (putF_no (F := F) (r := ⟨site, seq, dep, key, val⟩) (c := 1) (by unfold putE; rw [hq.out, if_pos rfl, if_neg h1]) (by decide)))
    go_enter Try.func12, Try.ntmps12
    go_wp2_with fail
    rw [HW.out]
    refine (C.out _ (HV.out.below hb0.out)).mono ?_
    rintro e w1 ⟨rfl, hw1⟩
    obtain ⟨c0, c1, c2, c3, -, -, -, -⟩ := cells4F (HF.out.keep (hb0.out.trans (hw1.mono hb0.out.size))).head
    obtain ⟨x0, x1, x2, x3, x4, -, -, -, -, -⟩ := cells5F (keepB E0.out hw1)
    go_wp2_with fail
    have hne : (site == F.site) = false := beq_eq_false_iff_ne.2 h1
    go_quiet (fail)
    go_wp2_with fail
    go_ret
    exact ⟨rfl, hend.out _ (hb0.out.trans ((hw1.trans ((drewsB w1 _).mono hw1.size)).mono hb0.out.size)) hGF.out⟩
  subst h1
  rw [if_pos rfl] at hc
  obtain ⟨ob, hob⟩ : ∃ ob, w.heap[b]? = ob := ⟨_, rfl⟩
  obtain ⟨tw, htw⟩ : ∃ tw, (F.L.any fun x => decide (x.seq = seq)) = tw := ⟨_, rfl⟩
  rw [htw] at hc
  have hL : ∃ z1 z2 z3 z4 z5 z6 z7, ∀ w', w'.heap[b]? = ob → (Instr.lookup 67 (.map (some b)) (.int .i64 seq) true).run Try.prog w' = .ok (.tuple #[.agg #[.int .i64 z1, .int .i64 z2, .slice z3 z4 z5, .string z6, .string z7], .bool tw]) w' := by
    subst hob
    obtain ⟨M, m1, m2, m3⟩ := HF.out.held
    rcases map_look2 (P := Try.prog) Try.underlying67 Try.underlying3 (z := .agg #[.int .i64 0, .int .i64 0, .slice none 0 0, .string ⟨#[]⟩, .string ⟨#[]⟩]) (fun w => Try.zeroValue35 w) seq m2 with ⟨v, h1, h2⟩ | ⟨h1, h2⟩
    · obtain ⟨x, hx, he⟩ := List.mem_map.1 h1
      simp only [Prod.mk.injEq] at he
      have : tw = true := by
        rw [← htw, List.any_eq_true]
        exact ⟨x.1, by rw [← m1]; exact List.mem_map.2 ⟨x, hx, rfl⟩, by simpa using he.1⟩
      subst this
      obtain ⟨vd, e1, e2⟩ := m3 x hx
      obtain ⟨a0, cap0, rfl⟩ := ownsRow_slice e2
      rw [← he.2, e1] at h2
      exact ⟨_, _, _, _, _, _, _, h2⟩
    · have : tw = false := by
        rw [← htw, List.any_eq_false]
        intro y hy
        rw [← m1] at hy
        obtain ⟨x, hx, rfl⟩ := List.mem_map.1 hy
        simpa using h1 (x.1.seq, x.2) (List.mem_map.2 ⟨x, hx, rfl⟩)
      subst this
      exact ⟨_, _, _, _, _, _, _, h2⟩
  obtain ⟨z1, z2, z3, z4, z5, z6, z7, hl0⟩ := hL
  replace htw := hide htw
  replace hob := hide hob
  go_enter Try.func12, Try.ntmps12
  go_wp2_with fail
  rw [HW.out]
  refine (C.out _ (HV.out.below hb0.out)).mono ?_
  rintro e w1 ⟨rfl, hw1⟩
  have hB1 := hb0.out.trans (hw1.mono hb0.out.size)
  have hf1 := HF.out.keep hB1
  obtain ⟨c0, c1, c2, c3, -, -, -, -⟩ := cells4F hf1.head
  obtain ⟨x0, x1, x2, x3, x4, -, -, -, -, -⟩ := cells5F (keepB E0.out hw1)
  have HV1 := hide (HV.out.below hB1)
  have Hf1 := hide hf1
  have HB1 := hide hB1
  clear hf1 hB1 hb0 HW C
  replace E0 := hide (keepB E0.out hw1)
  clear hw1
  go_wp2_with fail
  go_quiet (fail)
  go_wp2_with fail
  have hB2 := HB1.out.trans ((drewsB w1 nq).mono HB1.out.size)
  have hf2 := HF.out.keep hB2
  replace E0 : Hid ((w1.drewN nq).heap[w.heap.size]? = some (.cells #[.int .i64 F.site, .int .i64 seq, .slice a dep.length cap, .string key, .string val] 35 (0, 0))) := hide E0.out
  have HV2 := hide (HV.out.below hB2)
  obtain ⟨W2, hW2⟩ : ∃ W2, w1.drewN nq = W2 := ⟨_, rfl⟩
  rw [hW2] at hB2 hf2 E0 HV2
  rw [hW2]
  clear hW2 HB1 Hf1 HV1 c0 c1 c2 c3 x0 x1 x2 x3 x4
  obtain ⟨c0, c1, c2, c3, -, -, -, -⟩ := cells4F hf2.head
  obtain ⟨x0, x1, x2, x3, x4, -, -, -, -, -⟩ := cells5F E0.out
  have hob2 : W2.heap[b]? = ob := (hB2.block b HF.out.ltb).trans hob.out
  have hbW : b < W2.heap.size := hf2.ltb
  have hpW := hf2.lt
  have hwW := ltAt E0.out
  replace hf2 := hide hf2
  replace hB2 := hide hB2
  go_region_held3 (fun x => x.cell? ⟨w.heap.size, 1, none⟩ = some (.int .i64 seq) ∧ x.cell? ⟨p, 3, none⟩ = some (.map (some b)) ∧ (Instr.lookup 67 (.map (some b)) (.int .i64 seq) true).run Try.prog x = .ok (.tuple #[.agg #[.int .i64 z1, .int .i64 z2, .slice z3 z4 z5, .string z6, .string z7], .bool tw]) x)
    (first
      | (refine ⟨by go_keep, by go_keep, hl0 _ hob2⟩)
      | (refine ⟨by go_keep, by go_keep, hl0 _ ((Below.heap_alloc _ _ _ (show b < W2.heap.size from hbW)).trans hob2)⟩))
    (fail)
  all_goals
    have hB3 := hide ((hB2.out.alloc hB2.out.size (.cells #[.int .i64 z1, .int .i64 z2, .slice z3 z4 z5, .string z6, .string z7] 35)).drew)
    have E3 : Hid ((W2.alloc (.cells #[.int .i64 z1, .int .i64 z2, .slice z3 z4 z5, .string z6, .string z7] 35)).drew.heap[w.heap.size]? = some (.cells #[.int .i64 F.site, .int .i64 seq, .slice a dep.length cap, .string key, .string val] 35 (0, 0))) := hide ((Below.heap_alloc _ _ _ hwW).trans E0.out)
    obtain ⟨W3, hW3⟩ : ∃ W3, (W2.alloc (.cells #[.int .i64 z1, .int .i64 z2, .slice z3 z4 z5, .string z6, .string z7] 35)).drew = W3 := ⟨_, rfl⟩
    rename_i hHeld
    clear hHeld
    rw [hW3] at hB3 E3
    rw [hW3]
    clear hW3 c0 c1 c2 c3 x0 x1 x2 x3 x4 hl0 hB2 E0 HV2 hob2 hf2
    obtain ⟨c0, c1, c2, c3, -, -, -, -⟩ := cells4F (HF.out.keep hB3.out).head
    obtain ⟨x0, x1, x2, x3, x4, -, -, -, -, -⟩ := cells5F E3.out
    by_cases ht : tw = true
    · subst ht
      rw [if_pos (by simp)] at hc
      subst hc
      have hGF := hide (hG.out.symm.trans (putF_no HE.out (by decide)))
      go_wp2_with fail
      go_quiet (fail)
      go_wp2_with fail
      go_ret
      exact ⟨rfl, hend.out _ (hB3.out.trans ((drewsB W3 _).mono hB3.out.size)) hGF.out⟩
    · simp only [Bool.not_eq_true] at ht
      subst ht
      by_cases hlt : seq < F.next
      · rw [if_pos (by simp [hlt])] at hc
        subst hc
        have hGF := hide (hG.out.symm.trans (putF_no HE.out (by decide)))
        go_wp2_with fail
        go_quiet (fail)
        go_wp2_with fail
        go_ret
        exact ⟨rfl, hend.out _ (hB3.out.trans ((drewsB W3 _).mono hB3.out.size)) hGF.out⟩
      · rw [if_neg (by simp [hlt])] at hc
        have hr1 : wrap64 (F.next + F.room) = F.next + F.room := by unfold wrap64; omega
        by_cases hge : F.next + F.room ≤ seq
        · rw [if_pos hge] at hc
          subst hc
          have hGF := hide (hG.out.symm.trans (putF_no HE.out (by decide)))
          go_wp2_with fail
          go_quiet (fail)
          go_wp2_with fail
          go_quiet (fail)
          go_wp2_with fail
          go_ret
          exact ⟨rfl, hend.out _ ((hB3.out.trans ((drewsB W3 _).mono hB3.out.size)).trans ((drewsB (W3.drewN _) _).mono hB3.out.size)) hGF.out⟩
        · rw [if_neg hge] at hc
          subst hc
          go_wp2_with fail
          go_quiet (fail)
          revert nq
          intro nq0
          go_wp2_with fail
          go_quiet (fail)
          go_wp2_with fail
          have hB4 := (hB3.out.trans ((drewsB W3 nq0).mono hB3.out.size)).trans ((drewsB (W3.drewN nq0) nq).mono hB3.out.size)
          have E4 : Hid (((W3.drewN nq0).drewN nq).heap[w.heap.size]? = some (.cells #[.int .i64 F.site, .int .i64 seq, .slice a dep.length cap, .string key, .string val] 35 (0, 0))) := hide E3.out
          obtain ⟨W4, hW4⟩ : ∃ W4, (W3.drewN nq0).drewN nq = W4 := ⟨_, rfl⟩
          rw [hW4] at hB4 E4
          rw [hW4]
          have HV4 := hide (HV.out.below hB4.drew)
          clear hW4 hB3 E3 c0 c1 c2 c3 x0 x1 x2 x3 x4 hend
          have hf4 := HF.out.keep hB4
          obtain ⟨c0, c1, c2, c3, -, -, -, -⟩ := cells4F hf4.head
          obtain ⟨x0, x1, x2, x3, x4, -, -, -, -, -⟩ := cells5F E4.out
          have hpW4 := hf4.lt
          have hpb := hf4.ne
          have hwb : w.heap.size ≠ b := by have := HF.out.ltb; omega
          have hwW4 := ltAt E4.out
          have Hf4 := hide hf4
          have HB4 := hide hB4
          clear hf4 hB4
          go_region_held3 (fun x => x.cell? ⟨w.heap.size, 0, none⟩ = some (.int .i64 F.site) ∧ x.cell? ⟨w.heap.size, 1, none⟩ = some (.int .i64 seq) ∧ x.cell? ⟨w.heap.size, 2, none⟩ = some (.slice a dep.length cap) ∧ x.cell? ⟨w.heap.size, 3, none⟩ = some (.string key) ∧ x.cell? ⟨w.heap.size, 4, none⟩ = some (.string val) ∧ x.cell? ⟨p, 3, none⟩ = some (.map (some b)))
            (first
              | go_keep
              | (have hbO' := hbO.out
                 exact ⟨(World.cell?_of_block (a := ⟨w.heap.size, 0, none⟩) (hbO'.block _ hwW4)).trans x0, (World.cell?_of_block (a := ⟨w.heap.size, 1, none⟩) (hbO'.block _ hwW4)).trans x1, (World.cell?_of_block (a := ⟨w.heap.size, 2, none⟩) (hbO'.block _ hwW4)).trans x2, (World.cell?_of_block (a := ⟨w.heap.size, 3, none⟩) (hbO'.block _ hwW4)).trans x3, (World.cell?_of_block (a := ⟨w.heap.size, 4, none⟩) (hbO'.block _ hwW4)).trans x4, (World.cell?_of_block (a := ⟨p, 3, none⟩) (hbO'.block _ hpW4)).trans c3⟩)
              | (have hbO' := hbT.out
                 exact ⟨(World.cell?_of_block (a := ⟨w.heap.size, 0, none⟩) (hbO' _ hwW4 hwb)).trans x0, (World.cell?_of_block (a := ⟨w.heap.size, 1, none⟩) (hbO' _ hwW4 hwb)).trans x1, (World.cell?_of_block (a := ⟨w.heap.size, 2, none⟩) (hbO' _ hwW4 hwb)).trans x2, (World.cell?_of_block (a := ⟨w.heap.size, 3, none⟩) (hbO' _ hwW4 hwb)).trans x3, (World.cell?_of_block (a := ⟨w.heap.size, 4, none⟩) (hbO' _ hwW4 hwb)).trans x4, (World.cell?_of_block (a := ⟨p, 3, none⟩) (hbO' _ hpW4 hpb)).trans c3⟩))
            (first
              | (go_at_call 29; refine (O.out _ HV4.out).mono ?_; rintro e w5 ⟨v5, rfl, hown5, hbO⟩; replace hbO : Hid (RowKit.Below W4.heap.size W4.drew w5) := hide hbO
                 obtain ⟨w6, hrun6, hfil6, ht6⟩ := fil_put (Hf4.out.keep ((Below_of_drew hbO.out))) (hown5.low (Nat.zero_le _)) HE.out
                 dsimp only at hrun6
                 have hbT : Hid (∀ k, k < W4.heap.size → k ≠ b → w6.heap[k]? = W4.heap[k]?) := hide (fun k hk hkb => (ht6.block k (Nat.lt_of_lt_of_le hk hbO.out.size) hkb).trans (hbO.out.block k hk))
                 have hfil6 := hide hfil6
                 have ht6 := hide ht6
                 have hown5 := hide hown5))
          go_wp2_with fail
          go_ret
          exact ⟨rfl, by rw [← hG.out]; exact hfil6.out, (touch_new (HB4.out.trans ((Below_of_drew hbO.out).mono HB4.out.size))).trans (ht6.out.mono fun k _ e => .inr e)⟩

end Go.Proofs.Ytompaldhnbcikaa
