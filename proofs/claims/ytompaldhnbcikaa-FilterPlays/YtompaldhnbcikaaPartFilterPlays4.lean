/- Own work: the parts F6, F7, M7, F8 of the proof, laid together. -/
import Derived.Test.YtompaldhnbcikaaPartFilterPlays3
import Derived.Test.YtompaldhnbcikaaPartFilterPlays2
/- filter's Put. Own work; no statement. -/
set_option linter.unusedSimpArgs false
set_option linter.unusedVariables false
namespace Go.Proofs.Ytompaldhnbcikaa
open Go.RowKit Go.Shelf Go.Sort

theorem Below_of_drew {W w' : World} (h : RowKit.Below W.heap.size W.drew w') : RowKit.Below W.heap.size W w' := ((RowKit.Below.refl _ W).drew).trans h
/-- One more held. -/
theorem fil_put {w : World} {p b : Nat} {F : FilD} {v : Value} {r : RecD} (hf : IsFil w p b F) (hv : OwnRec 0 w v r) (he : putE F r = 0) :
    ∃ w', (Instr.mapUpdate 67 (.map (some b)) (.int .i64 r.seq) v).run Try.prog w = .ok () w' ∧ IsFil w' p b (putF F r) ∧ Touch (fun x => x = b) w w' := by
  obtain ⟨M, m1, m2, m3⟩ := hf.held
  have hne := (putE_ok he).2.2.1
  obtain ⟨w', h1, h2, h3⟩ := map_update (P := Try.prog) Try.underlying67 Try.underlying3 r.seq v m2 (fun x hx => by
    obtain ⟨y, hy, rfl⟩ := List.mem_map.1 hx
    exact hne y.1 (by rw [← m1]; exact List.mem_map.2 ⟨y, hy, rfl⟩))
  have hk : ∀ (k : Nat) (c : Array Value), w.heap[k]? = some (.cells c 3 (0, 0)) → w'.heap[k]? = w.heap[k]? := fun k c e => h3.block k (ltAt e) (by rintro rfl; exact m2.not_cells e)
  refine ⟨w', h1, ⟨putF_ok hf.ok r, ?_, M ++ [(r, v)], ?_, ?_, ?_⟩, h3⟩
  · rw [show putF F r = ⟨F.site, F.room, F.next, F.L ++ [r]⟩ from if_pos he]
    exact (h3.block p hf.lt hf.ne).trans hf.head
  · rw [show putF F r = ⟨F.site, F.room, F.next, F.L ++ [r]⟩ from if_pos he]
    simp [m1]
  · simpa using h2
  · intro x hx
    rcases List.mem_append.1 hx with hx | hx
    · exact (m3 x hx).keep hk
    · rw [List.mem_singleton.1 hx]
      exact hv.keep hk

theorem putF_no {F : FilD} {r : RecD} {c : Int} (h : putE F r = c) (hc : c ≠ 0) : putF F r = F := if_neg (by rw [h]; exact hc)

set_option maxHeartbeats 4000000 in
set_option maxRecDepth 100000 in
theorem filPut_calls (p b : Nat) (F : FilD) (v : Value) (r : RecD) (c : Int) (G : FilD) (hc : putE F r = c) (hG : putF F r = G) (w : World) (hf : IsFil w p b F) (hv : IsRec w v r) (hl : r.dep.length ≤ 1099511627776) (hk : r.key.size ≤ 1099511627776) (hvl : r.val.size ≤ 1099511627776) :
    Calls Try.prog 12 #[.pointer (some ⟨p, 0, none⟩), v] w fun e w' => e = .returned (.int .i64 c) ∧ IsFil w' p b G ∧ Touch (onFil p b) w w' := by
  have hok := hide (putF_ok hf.ok r)
  rw [hG] at hok
  have hb1 := hf.ok.next0
  have hb2 := hf.ok.next1
  have hb3 := hf.ok.room0
  have hb4 := hf.ok.room1
  have C := hide (fun w hv => recCheck_calls v r 8 w hv hl hk hvl)
  have O := hide (fun w hv => filOwned_calls v r w hv (by omega) hk hvl)
  have HV := hide hv
  have HF := hide hf
  obtain ⟨site, seq, dep, key, val⟩ := r
  obtain ⟨a, cap, rfl, hn⟩ := hv
  dsimp only at *
  have HE := hide hc
  unfold putE at hc
  dsimp only at hc
  have hsite : checkR ⟨site, seq, dep, key, val⟩ 8 = 0 → 1 ≤ seq ∧ seq ≤ 1048576 := fun h => ⟨(good_of h).2.2.1, (good_of h).2.2.2.1⟩
  obtain ⟨q, hq⟩ : ∃ q, checkR ⟨site, seq, dep, key, val⟩ 8 = q := ⟨_, rfl⟩
  rw [hq] at hc C hsite
  replace hsite := hide hsite
  replace hG := hide hG
  replace hq := hide hq
  clear hn hf
  have hob0 := box_below w (.cells #[.int .i64 site, .int .i64 seq, .slice a dep.length cap, .string key, .string val] 35)
  have e0 := World.alloc_heap_new w (.cells #[.int .i64 site, .int .i64 seq, .slice a dep.length cap, .string key, .string val] 35)
  obtain ⟨W0, hW0⟩ : ∃ W0, w.alloc (.cells #[.int .i64 site, .int .i64 seq, .slice a dep.length cap, .string key, .string val] 35) = W0 := ⟨_, rfl⟩
  rw [hW0] at hob0 e0
  have hb0 := hide hob0
  have E0 := hide e0
  have HW := hide hW0
  clear hW0 hob0 e0
  have hend : ∀ w', Below w.heap.size w w' → G = F → IsFil w' p b G ∧ Touch (onFil p b) w w' := fun w' h1 h2 => ⟨by rw [h2]; exact HF.out.keep h1, touch_new h1⟩
  replace hend := hide hend
  by_cases h0 : q = 0
  case neg =>
    rw [if_neg h0] at hc
    subst hc
    have hGF := hide (hG.out.symm.trans (putF_no (F := F) (r := ⟨site, seq, dep, key, val⟩) (by unfold putE; rw [hq.out, if_neg h0]) h0))
    go_enter Try.func12, Try.ntmps12
    go_wp2_with fail
    rw [HW.out]
    refine (C.out _ (HV.out.below hb0.out)).mono ?_
    rintro e w1 ⟨rfl, hw1⟩
    go_wp2_with fail
    go_ret
    exact ⟨rfl, hend.out _ (hb0.out.trans (hw1.mono hb0.out.size)) hGF.out⟩
  subst h0
  rw [if_pos rfl] at hc
  by_cases h1 : site = F.site
  case neg =>
    rw [if_neg h1] at hc
    subst hc
    have hGF := hide (hG.out.symm.trans (putF_no (F := F) (r := ⟨site, seq, dep, key, val⟩) (c := 1) (by unfold putE; rw [hq.out, if_pos rfl, if_neg h1]) (by decide)))
    go_enter Try.func12, Try.ntmps12
    go_wp2_with fail
    rw [HW.out]
    refine (C.out _ (HV.out.below hb0.out)).mono ?_
    rintro e w1 ⟨rfl, hw1⟩
    obtain ⟨c0, c1, c2, c3, -, -, -, -⟩ := cells4F (HF.out.keep (hb0.out.trans (hw1.mono hb0.out.size))).head
    obtain ⟨x0, x1, x2, x3, x4, -, -, -, -, -⟩ := cells5F (keepB E0.out hw1)
    go_wp2_with fail
    have hne : (site == F.site) = false := beq_eq_false_iff_ne.2 h1
    go_quiet (fail)
    go_wp2_with fail
    go_ret
    exact ⟨rfl, hend.out _ (hb0.out.trans ((hw1.trans ((drewsB w1 _).mono hw1.size)).mono hb0.out.size)) hGF.out⟩
  subst h1
  rw [if_pos rfl] at hc
  obtain ⟨ob, hob⟩ : ∃ ob, w.heap[b]? = ob := ⟨_, rfl⟩
  obtain ⟨tw, htw⟩ : ∃ tw, (F.L.any fun x => decide (x.seq = seq)) = tw := ⟨_, rfl⟩
  rw [htw] at hc
  have hL : ∃ z1 z2 z3 z4 z5 z6 z7, ∀ w', w'.heap[b]? = ob → (Instr.lookup 67 (.map (some b)) (.int .i64 seq) true).run Try.prog w' = .ok (.tuple #[.agg #[.int .i64 z1, .int .i64 z2, .slice z3 z4 z5, .string z6, .string z7], .bool tw]) w' := by
    subst hob
    obtain ⟨M, m1, m2, m3⟩ := HF.out.held
    rcases map_look2 (P := Try.prog) Try.underlying67 Try.underlying3 (z := .agg #[.int .i64 0, .int .i64 0, .slice none 0 0, .string ⟨#[]⟩, .string ⟨#[]⟩]) (fun w => Try.zeroValue35 w) seq m2 with ⟨v, h1, h2⟩ | ⟨h1, h2⟩
    · obtain ⟨x, hx, he⟩ := List.mem_map.1 h1
      simp only [Prod.mk.injEq] at he
      have : tw = true := by
        rw [← htw, List.any_eq_true]
        exact ⟨x.1, by rw [← m1]; exact List.mem_map.2 ⟨x, hx, rfl⟩, by simpa using he.1⟩
      subst this
      obtain ⟨vd, e1, e2⟩ := m3 x hx
      obtain ⟨a0, cap0, rfl⟩ := ownsRow_slice e2
      rw [← he.2, e1] at h2
      exact ⟨_, _, _, _, _, _, _, h2⟩
    · have : tw = false := by
        rw [← htw, List.any_eq_false]
        intro y hy
        rw [← m1] at hy
        obtain ⟨x, hx, rfl⟩ := List.mem_map.1 hy
        simpa using h1 (x.1.seq, x.2) (List.mem_map.2 ⟨x, hx, rfl⟩)
      subst this
      exact ⟨_, _, _, _, _, _, _, h2⟩
  obtain ⟨z1, z2, z3, z4, z5, z6, z7, hl0⟩ := hL
  replace htw := hide htw
  replace hob := hide hob
  go_enter Try.func12, Try.ntmps12
  go_wp2_with fail
  rw [HW.out]
  refine (C.out _ (HV.out.below hb0.out)).mono ?_
  rintro e w1 ⟨rfl, hw1⟩
  have hB1 := hb0.out.trans (hw1.mono hb0.out.size)
  have hf1 := HF.out.keep hB1
  obtain ⟨c0, c1, c2, c3, -, -, -, -⟩ := cells4F hf1.head
  obtain ⟨x0, x1, x2, x3, x4, -, -, -, -, -⟩ := cells5F (keepB E0.out hw1)
  have HV1 := hide (HV.out.below hB1)
  have Hf1 := hide hf1
  have HB1 := hide hB1
  clear hf1 hB1 hb0 HW C
  replace E0 := hide (keepB E0.out hw1)
  clear hw1
  go_wp2_with fail
  go_quiet (fail)
  go_wp2_with fail
  have hB2 := HB1.out.trans ((drewsB w1 nq).mono HB1.out.size)
  have hf2 := HF.out.keep hB2
  replace E0 : Hid ((w1.drewN nq).heap[w.heap.size]? = some (.cells #[.int .i64 F.site, .int .i64 seq, .slice a dep.length cap, .string key, .string val] 35 (0, 0))) := hide E0.out
  have HV2 := hide (HV.out.below hB2)
  obtain ⟨W2, hW2⟩ : ∃ W2, w1.drewN nq = W2 := ⟨_, rfl⟩
  rw [hW2] at hB2 hf2 E0 HV2
  rw [hW2]
  clear hW2 HB1 Hf1 HV1 c0 c1 c2 c3 x0 x1 x2 x3 x4
  obtain ⟨c0, c1, c2, c3, -, -, -, -⟩ := cells4F hf2.head
  obtain ⟨x0, x1, x2, x3, x4, -, -, -, -, -⟩ := cells5F E0.out
  have hob2 : W2.heap[b]? = ob := (hB2.block b HF.out.ltb).trans hob.out
  have hbW : b < W2.heap.size := hf2.ltb
  have hpW := hf2.lt
  have hwW := ltAt E0.out
  replace hf2 := hide hf2
  replace hB2 := hide hB2
  go_region_held3 (fun x => x.cell? ⟨w.heap.size, 1, none⟩ = some (.int .i64 seq) ∧ x.cell? ⟨p, 3, none⟩ = some (.map (some b)) ∧ (Instr.lookup 67 (.map (some b)) (.int .i64 seq) true).run Try.prog x = .ok (.tuple #[.agg #[.int .i64 z1, .int .i64 z2, .slice z3 z4 z5, .string z6, .string z7], .bool tw]) x)
    (first
      | (refine ⟨by go_keep, by go_keep, hl0 _ hob2⟩)
      | (refine ⟨by go_keep, by go_keep, hl0 _ ((Below.heap_alloc _ _ _ (show b < W2.heap.size from hbW)).trans hob2)⟩))
    (fail)
  all_goals
    have hB3 := hide ((hB2.out.alloc hB2.out.size (.cells #[.int .i64 z1, .int .i64 z2, .slice z3 z4 z5, .string z6, .string z7] 35)).drew)
    have E3 : Hid ((W2.alloc (.cells #[.int .i64 z1, .int .i64 z2, .slice z3 z4 z5, .string z6, .string z7] 35)).drew.heap[w.heap.size]? = some (.cells #[.int .i64 F.site, .int .i64 seq, .slice a dep.length cap, .string key, .string val] 35 (0, 0))) := hide ((Below.heap_alloc _ _ _ hwW).trans E0.out)
    obtain ⟨W3, hW3⟩ : ∃ W3, (W2.alloc (.cells #[.int .i64 z1, .int .i64 z2, .slice z3 z4 z5, .string z6, .string z7] 35)).drew = W3 := ⟨_, rfl⟩
    rename_i hHeld
    clear hHeld
    rw [hW3] at hB3 E3
    rw [hW3]
    clear hW3 c0 c1 c2 c3 x0 x1 x2 x3 x4 hl0 hB2 E0 HV2 hob2 hf2
    obtain ⟨c0, c1, c2, c3, -, -, -, -⟩ := cells4F (HF.out.keep hB3.out).head
    obtain ⟨x0, x1, x2, x3, x4, -, -, -, -, -⟩ := cells5F E3.out
    by_cases ht : tw = true
    · subst ht
      rw [if_pos (by simp)] at hc
      subst hc
      have hGF := hide (hG.out.symm.trans (putF_no HE.out (by decide)))
      go_wp2_with fail
      go_quiet (fail)
      go_wp2_with fail
      go_ret
      exact ⟨rfl, hend.out _ (hB3.out.trans ((drewsB W3 _).mono hB3.out.size)) hGF.out⟩
    · simp only [Bool.not_eq_true] at ht
      subst ht
      by_cases hlt : seq < F.next
      · rw [if_pos (by simp [hlt])] at hc
        subst hc
        have hGF := hide (hG.out.symm.trans (putF_no HE.out (by decide)))
        go_wp2_with fail
        go_quiet (fail)
        go_wp2_with fail
        go_ret
        exact ⟨rfl, hend.out _ (hB3.out.trans ((drewsB W3 _).mono hB3.out.size)) hGF.out⟩
      · rw [if_neg (by simp [hlt])] at hc
        have hr1 : wrap64 (F.next + F.room) = F.next + F.room := by unfold wrap64; omega
        by_cases hge : F.next + F.room ≤ seq
        · rw [if_pos hge] at hc
          subst hc
          have hGF := hide (hG.out.symm.trans (putF_no HE.out (by decide)))
          go_wp2_with fail
          go_quiet (fail)
          go_wp2_with fail
          go_quiet (fail)
          go_wp2_with fail
          go_ret
          exact ⟨rfl, hend.out _ ((hB3.out.trans ((drewsB W3 _).mono hB3.out.size)).trans ((drewsB (W3.drewN _) _).mono hB3.out.size)) hGF.out⟩
        · rw [if_neg hge] at hc
          subst hc
          go_wp2_with fail
          go_quiet (fail)
          revert nq
          intro nq0
          go_wp2_with fail
          go_quiet (fail)
          go_wp2_with fail
          have hB4 := (hB3.out.trans ((drewsB W3 nq0).mono hB3.out.size)).trans ((drewsB (W3.drewN nq0) nq).mono hB3.out.size)
          have E4 : Hid (((W3.drewN nq0).drewN nq).heap[w.heap.size]? = some (.cells #[.int .i64 F.site, .int .i64 seq, .slice a dep.length cap, .string key, .string val] 35 (0, 0))) := hide E3.out
          obtain ⟨W4, hW4⟩ : ∃ W4, (W3.drewN nq0).drewN nq = W4 := ⟨_, rfl⟩
          rw [hW4] at hB4 E4
          rw [hW4]
          have HV4 := hide (HV.out.below hB4.drew)
          clear hW4 hB3 E3 c0 c1 c2 c3 x0 x1 x2 x3 x4 hend
          have hf4 := HF.out.keep hB4
          obtain ⟨c0, c1, c2, c3, -, -, -, -⟩ := cells4F hf4.head
          obtain ⟨x0, x1, x2, x3, x4, -, -, -, -, -⟩ := cells5F E4.out
          have hpW4 := hf4.lt
          have hpb := hf4.ne
          have hwb : w.heap.size ≠ b := by have := HF.out.ltb; omega
          have hwW4 := ltAt E4.out
          have Hf4 := hide hf4
          have HB4 := hide hB4
          clear hf4 hB4
          go_region_held3 (fun x => x.cell? ⟨w.heap.size, 0, none⟩ = some (.int .i64 F.site) ∧ x.cell? ⟨w.heap.size, 1, none⟩ = some (.int .i64 seq) ∧ x.cell? ⟨w.heap.size, 2, none⟩ = some (.slice a dep.length cap) ∧ x.cell? ⟨w.heap.size, 3, none⟩ = some (.string key) ∧ x.cell? ⟨w.heap.size, 4, none⟩ = some (.string val) ∧ x.cell? ⟨p, 3, none⟩ = some (.map (some b)))
            (first
              | go_keep
              | (have hbO' := hbO.out
                 exact ⟨(World.cell?_of_block (a := ⟨w.heap.size, 0, none⟩) (hbO'.block _ hwW4)).trans x0, (World.cell?_of_block (a := ⟨w.heap.size, 1, none⟩) (hbO'.block _ hwW4)).trans x1, (World.cell?_of_block (a := ⟨w.heap.size, 2, none⟩) (hbO'.block _ hwW4)).trans x2, (World.cell?_of_block (a := ⟨w.heap.size, 3, none⟩) (hbO'.block _ hwW4)).trans x3, (World.cell?_of_block (a := ⟨w.heap.size, 4, none⟩) (hbO'.block _ hwW4)).trans x4, (World.cell?_of_block (a := ⟨p, 3, none⟩) (hbO'.block _ hpW4)).trans c3⟩)
              | (have hbO' := hbT.out
                 exact ⟨(World.cell?_of_block (a := ⟨w.heap.size, 0, none⟩) (hbO' _ hwW4 hwb)).trans x0, (World.cell?_of_block (a := ⟨w.heap.size, 1, none⟩) (hbO' _ hwW4 hwb)).trans x1, (World.cell?_of_block (a := ⟨w.heap.size, 2, none⟩) (hbO' _ hwW4 hwb)).trans x2, (World.cell?_of_block (a := ⟨w.heap.size, 3, none⟩) (hbO' _ hwW4 hwb)).trans x3, (World.cell?_of_block (a := ⟨w.heap.size, 4, none⟩) (hbO' _ hwW4 hwb)).trans x4, (World.cell?_of_block (a := ⟨p, 3, none⟩) (hbO' _ hpW4 hpb)).trans c3⟩))
            (first
              | (go_at_call 29; refine (O.out _ HV4.out).mono ?_; rintro e w5 ⟨v5, rfl, hown5, hbO⟩; replace hbO : Hid (RowKit.Below W4.heap.size W4.drew w5) := hide hbO
                 obtain ⟨w6, hrun6, hfil6, ht6⟩ := fil_put (Hf4.out.keep ((Below_of_drew hbO.out))) (hown5.low (Nat.zero_le _)) HE.out
                 dsimp only at hrun6
                 have hbT : Hid (∀ k, k < W4.heap.size → k ≠ b → w6.heap[k]? = W4.heap[k]?) := hide (fun k hk hkb => (ht6.block k (Nat.lt_of_lt_of_le hk hbO.out.size) hkb).trans (hbO.out.block k hk))
                 have hfil6 := hide hfil6
                 have ht6 := hide ht6
                 have hown5 := hide hown5))
          go_wp2_with fail
          go_ret
          exact ⟨rfl, by rw [← hG.out]; exact hfil6.out, (touch_new (HB4.out.trans ((Below_of_drew hbO.out).mono HB4.out.size))).trans (ht6.out.mono fun k _ e => .inr e)⟩

end Go.Proofs.Ytompaldhnbcikaa

/- filter's firsts and its sequence. Own work; no statement. -/
set_option linter.unusedSimpArgs false
set_option linter.unusedVariables false
namespace Go.Proofs.Ytompaldhnbcikaa
open Go.RowKit Go.Shelf

attribute [local go_sem] Oper.semAt_some

set_option maxHeartbeats 1000000 in
theorem firsts_calls (p : Nat) (w : World) :
    Calls Try.prog 44 #[.pointer (some ⟨p, 0, none⟩)] w fun en w' =>
      en = .returned (.func (.func 48) #[] #[.pointer (some ⟨w.heap.size, 0, none⟩)]) ∧ w' = w.alloc (.cells #[.pointer (some ⟨p, 0, none⟩)] 25) := by
  have hmf : ∀ (fn : Fn) (first cap : Array Value) (w : World), (Instr.makeFunc fn first cap).run Try.prog w = .ok (.func fn first cap) w := fun _ _ _ _ => rfl
  go_enter Try.func44, Try.ntmps44
  go_wp2
  go_ret
  exact ⟨rfl, rfl⟩

set_option maxHeartbeats 1000000 in
theorem ready_calls (p : Nat) (w : World) :
    Calls Try.prog 31 #[.pointer (some ⟨p, 0, none⟩)] w fun en w' =>
      en = .returned (.func (.func 43) #[] #[.pointer (some ⟨w.heap.size, 0, none⟩)]) ∧ w' = w.alloc (.cells #[.pointer (some ⟨p, 0, none⟩)] 25) := by
  have hmf : ∀ (fn : Fn) (first cap : Array Value) (w : World), (Instr.makeFunc fn first cap).run Try.prog w = .ok (.func fn first cap) w := fun _ _ _ _ => rfl
  go_enter Try.func31, Try.ntmps31
  go_wp2
  go_ret
  exact ⟨rfl, rfl⟩

/-- The number that a filter at p has as its next. -/
def nextAt (p : Nat) (w : World) : Int := match w.cell? ⟨p, 2, none⟩ with
  | some (.int _ n) => n
  | _ => 0
theorem nextAt_fil {w : World} {p b : Nat} {F : FilD} (h : IsFil w p b F) : nextAt p w = F.next := by
  unfold nextAt
  rw [(cells4F h.head).2.2.1]

set_option maxRecDepth 100000 in
set_option maxHeartbeats 4000000 in
/-- The first ones, one after the other, as long as there is one: who asks takes it away. -/
theorem firsts_seq (n : Nat) (hn : 1 ≤ n) (lp bx p b N : Nat) (s : Int) (Fk : Nat → FilD) (J : Nat → World → Prop) (Jx : World → Prop)
    (hJf : ∀ k A, J k A → IsFil A p b (Fk k) ∧ Boxed A bx 25 (.pointer (some ⟨p, 0, none⟩)))
    (hJb : ∀ k A B, J k A → Below A.heap.size A B → J k B)
    (hF : ∀ k, (Fk k).next = s + k) (hN : ∀ k A, J k A → k ≤ N)
    (hY : ∀ k A r v, J k A → firstF (Fk k) = some r → OwnRec 0 A v r → YieldAt Fence.wide (n - 1) Try.prog lp #[v] A fun e C => (e = .returned (.bool true) ∧ J (k + 1) C) ∨ (e = .returned (.bool false) ∧ Jx C))
    (W : World) (h0 : J 0 W) :
    CallsIn Fence.wide n Try.prog 48 #[.func (.yield lp) #[] #[], .pointer (some ⟨bx, 0, none⟩)] W fun e B => (∃ v, e = .returned v) ∧ ((∃ k, firstF (Fk k) = none ∧ J k B) ∨ Jx B) := by
  have HY := hide hY
  clear hY
  replace hJf := hide hJf
  replace hJb := hide hJb
  replace hN := hide hN
  replace hF := hide hF
  refine callsIn_of_wp Try.func48 rfl trivial ?_ rfl
  simp only [Try.ntmps48, List.size_toArray, List.length_cons, List.length_nil, Nat.reduceAdd, Nat.reduceSub, Array.replicate_succ, Array.replicate_zero, List.push_toArray, List.append_toArray, List.nil_append, List.cons_append]
  gi_wp2
  gi_loopw [] (fun wr => ∃ k : Nat, J k wr) (fun wr => (s + N - nextAt p wr).toNat)
  case atStart => exact ⟨0, h0⟩
  case round =>
    obtain ⟨k, hJk⟩ := hrel
    obtain ⟨hfil, hbx⟩ := hJf.out k wr hJk
    have cb := hbx.cell
    have hnx := hide (nextAt_fil hfil)
    have hkN := hN.out k wr hJk
    have C := hide (fun o ho => filFirst_calls p b (Fk k) o ho wr hfil)
    have HJk := hide hJk
    clear hfil hbx hJk
    obtain ⟨o, ho⟩ : ∃ o, firstF (Fk k) = o := ⟨_, rfl⟩
    cases o with
    | none =>
      gi_wp2_with (refine ⟨trivial, ?_⟩; gi_at_call 21; refine ((callsIn_wide (n := _)).2 (C.out none ho)).mono ?_; rintro en w1 ⟨v, rfl, ⟨vd, rfl, hown⟩, hb1⟩; obtain ⟨a, cap, rfl⟩ := ownsRow_slice hown; clear hown)
      refine ⟨(fun _ h => by cases h), ?_⟩
      gi_wp2
      refine bodyPost_ret (results_none rfl _ _ _) rfl ?_
      exact ⟨⟨_, rfl⟩, .inl ⟨k, ho, hJb.out k _ _ HJk.out (hb1.alloc hb1.size _)⟩⟩
    | some r =>
      gi_wp2_with (refine ⟨trivial, ?_⟩; gi_at_call 21; refine ((callsIn_wide (n := _)).2 (C.out (some r) ho)).mono ?_; rintro en w1 ⟨v, rfl, ⟨vd, rfl, hown⟩, hb1⟩; obtain ⟨a, cap, rfl⟩ := ownsRow_slice hown; have hJ2 := hJb.out k _ _ HJk.out (hb1.alloc hb1.size (.cells #[.int .i64 r.site, .int .i64 r.seq, .slice a r.dep.length cap, .string r.key, .string r.val] 35)); obtain ⟨fn, tmps, assign, body, hy, hR⟩ := HY.out k _ r (.agg #[.int .i64 r.site, .int .i64 r.seq, .slice a r.dep.length cap, .string r.key, .string r.val]) hJ2 ho ⟨_, rfl, ownsRow_low (hown.alloc _) (Nat.zero_le _)⟩; clear hown)
      refine hR.mono ?_
      rintro en W3 (⟨rfl, hJ3⟩ | ⟨rfl, hJx⟩)
      · have hn3 := hide (nextAt_fil (hJf.out _ _ hJ3).1)
        have hN3 := hN.out _ _ hJ3
        gi_wp2
        refine ⟨⟨k + 1, hJ3⟩, ?_⟩
        rw [hn3.out, hnx.out, hF.out, hF.out]
        omega
      · gi_wp2
        refine bodyPost_ret (results_none rfl _ _ _) rfl ?_
        exact ⟨⟨_, rfl⟩, .inr hJx⟩

end Go.Proofs.Ytompaldhnbcikaa

/- Ranges over functions that stand in each other: a sequence that goes over others, each round within a round. Own work; no statement. -/
set_option linter.unusedSimpArgs false
set_option linter.unusedVariables false
namespace Go.Proofs.Ytompaldhnbcikaa
open Go.RowKit Go.Shelf

section
variable {α : Type} {P : Program} {n : Nat}

theorem room_wide' (k : Nat) : Fence.wide.room k := fun _ h => by cases h
theorem yield_any {m : Nat} (m' : Nat) {l : Nat} {args : Array Value} {W : World} {R : Ending → World → Prop} (h : YieldAt Fence.wide m P l args W R) : YieldAt Fence.wide m' P l args W R := by
  obtain ⟨fn, tmps, assign, body, hy, hR⟩ := h
  exact ⟨fn, tmps, assign, body, hy, hR.1, fun c cs _ => hR.2 c cs (room_wide' _)⟩

/-- The iterator's contract: it hands over xs, one by one, as long as it is asked; it makes memory of its own between. -/
def SeqO (n : Nat) (P : Program) (g : Nat) (lb : Array Value) (encs : α → Array Value) (Kp : World → World → Prop) (xs : List α) (w : World) : Prop :=
  ∀ (l : Nat) (J Jx : Nat → World → Prop) (W : World), Below w.heap.size w W → OwnFrom W.heap.size J →
    (∀ k (h : k < xs.length) A, J k A → YieldAt Fence.wide (n - 1) P l (encs xs[k]) A fun e C => (e = .returned (.bool true) ∧ J (k + 1) C ∧ Kp A C) ∨ (e = .returned (.bool false) ∧ Jx k C)) →
    J 0 W → CallsIn Fence.wide n P g (#[.func (.yield l) #[] #[]] ++ lb) W fun e B => (∃ v, e = .returned v) ∧ (J xs.length B ∨ ∃ k, k < xs.length ∧ Jx k B)

theorem book_own {D : Nat} {r : Loop} {β : Type} : OwnFrom (D + 2) (fun (_ : β) W => Book D r W) := fun _ X Y row h hg hr =>
  ⟨(hg.block _ (ltAt h.1) fun e => by have := (hr _ e.symm).1; omega).trans h.1, (hg.block _ (ltAt h.2) fun e => by have := (hr _ e.symm).1; omega).trans h.2⟩

/-- A range over such a function, out of every round; the body is told of its own record. -/
theorem range_lawO {g : Operand} {ps : Array Tmp} {assign body : Code} {Q : Exit → Act → World → Prop} {a : Act} {w : World} (h1 : 1 ≤ n) {gf : Nat} {lb : Array Value} (hg : a.eval g = .func (.func gf) #[] lb)
    (eg : ∀ args w, (callFunc gf args).run P w = .ok (.enter gf args) w) {encs : α → Array Value} {Kp : World → World → Prop} {xs : List α} (hseq : SeqO (n - 1) P gf lb encs Kp xs w)
    (hKt : ∀ {A B C : World}, Kp A B → Kp B C → Kp A C) (hKb : ∀ (W : World) (l : Nat) (o o' : Obj), w.heap.size ≤ l → W.heap[l]? = some o → o.isCells = false → o.isWalk = false → Kp W (W.putObj l o'))
    (hps : ∀ x, (encs x).size = ps.size)
    (I : Nat → World → Prop) (Ix : Code → Nat → World → Prop) (hI : OwnFrom w.heap.size I) (hIx : ∀ c, OwnFrom w.heap.size (Ix c))
    (h0 : I 0 w) (Ax : α → Act → World → Prop) (hAx : ∀ x a', OwnFrom w.heap.size (fun (_ : Unit) W => Ax x a' W))
    (hassign : ∀ (l k : Nat) (h : k < xs.length) (W : World) (K : Act → World → Prop), I k W → (∀ a' W', KeepsFrom w.heap.size W W' → Kp W W' → I k W' → Ax xs[k] a' W' → K a' W') →
      assign.wpIn (Fence.wide.inRound l) (n - 1 - 1) P (Exit.then K (fun _ _ _ => False)) { tmps := (ps.zip (encs xs[k])).foldl (fun t (p, v) => t.setIfInBounds p v) a.tmps, defers := [] } W)
    (hbody : ∀ (l k : Nat) (h : k < xs.length) (a' : Act) (W : World), w.heap.size ≤ l → (∃ r, W.heap[l]? = some (.loop r)) → I k W → Ax xs[k] a' W → body.wpIn (Fence.wide.inRound l) (n - 1 - 1) P (postL w.heap.size Kp I Ix k W) a' W)
    (hdone : ∀ (D : Nat) (W : World), w.heap.size ≤ D → I xs.length W → W.heap[D]? = some (.deferred (some [])) → Q .normal { a with defers := { target := .collected D, args := #[] } :: a.defers } W)
    (hstop : ∀ (D : Nat) (c : Code) (k : Nat) (W : World), w.heap.size ≤ D → k < xs.length → Ix c k W → W.heap[D]? = some (.deferred (some [])) → c.wpIn Fence.wide n P Q { a with defers := { target := .collected D, args := #[] } :: a.defers } W) :
    (Code.rangeFunc g ps assign body).wpIn Fence.wide n P Q a w := by
  refine wpIn_rangeFunc fun fn _ => ?_
  generalize hD : w.heap.size = D at *
  let r : Loop := { state := .ready, pending := none, fn, tmps := a.tmps, params := ps, assign, body, defers := D }
  let w1 : World := (w.alloc (.deferred (some []))).alloc (.loop r)
  have bk1 : Book D r w1 := by
    refine ⟨?_, ?_⟩
    · have := World.alloc_heap_new (w.alloc (.deferred (some []))) (.loop r)
      rwa [World.size_alloc, hD] at this
    · have := World.alloc_heap_new w (.deferred (some []))
      rw [hD] at this
      exact (Below.heap_alloc _ _ _ (by simp; omega)).trans this
  have hs1 : w1.heap.size = D + 2 := by simp [w1, hD]
  have i1 : I 0 w1 := hI.alloc _ (hI.alloc _ h0)
  have b1 : Below w.heap.size w w1 := ((Below.refl _ w).alloc (Nat.le_refl _) _).alloc (by simp) _
  refine ⟨D + 1, [{ target := .collected D, args := #[] }], w1, { target := .fn (.func gf) lb, args := #[.func (.yield (D + 1)) #[] #[]] }, w1, gf, #[.func (.yield (D + 1)) #[] #[]] ++ lb, w1, ?_, ?_, fun _ _ => trivial, ?_, fun _ => h1, ?_⟩
  · rw [← hD]
    have := run_enterLoop_outer (P := P) (w := w) fn a.tmps ps assign body
    simp only [w1, r, ← hD]
    exact this
  · simp only [resolve, hg]
    simp [go_sem]
  · simp [invoke, go_sem, eg]
  · refine (hseq (D + 1) (fun k W => I k W ∧ Book D r W) (fun k W => ∃ c, Ix c k W ∧ Book D { r with state := .done, pending := some c } W) w1 b1
      (fun s X Y row h hg hr => ⟨hI s X Y row h.1 hg (fun q e => ⟨by have := (hr q e).1; omega, (hr q e).2⟩), book_own (β := Unit) () X Y row h.2 hg (fun q e => ⟨by have := (hr q e).1; omega, (hr q e).2⟩)⟩) ?_ ⟨i1, bk1⟩).mono ?_
    · rintro k hk W ⟨hi, hb⟩
      refine ⟨fn, _, assign, body, run_yield hb.1 (hps xs[k]), roundIn_of_wpIn trivial (hassign _ k hk W _ hi fun a' W' hkf hkp hi' hax => ?_)⟩
      have hbW : Book D r W' := hb.from (Nat.le_refl _) hkf
      refine ⟨_, run_beginRound hbW.1 rfl, ?_⟩
      have hb2 := hbW.put { r with state := .busy }
      have k2 : Kp W (W'.putObj (D + 1) (.loop { r with state := .busy })) := hKt hkp (hKb _ _ _ _ (by omega) hbW.1 rfl rfl)
      refine wpIn_mono (hbody _ k hk a' _ (by omega) ⟨_, hb2.1⟩ (hI.putObj _ hi' (by omega) hbW.1 rfl) ((hAx _ a').putObj (s := ()) _ hax (by omega) hbW.1 rfl)) fun e a3 W3 hp => ?_
      have left : ∀ c, KeepsFrom D (W'.putObj (D + 1) (.loop { r with state := .busy })) W3 → Ix c k W3 → ∃ v W4, (Instr.endRound (D + 1) (some c)).run P W3 = .ok v W4 ∧ ((Ending.returned v = .returned (.bool true) ∧ (I (k + 1) W4 ∧ Book D r W4) ∧ Kp W W4) ∨ (Ending.returned v = .returned (.bool false) ∧ ∃ c, Ix c k W4 ∧ Book D { r with state := .done, pending := some c } W4)) := fun c hk' hi3 => by
        obtain ⟨hr, hl, hb4⟩ := round_end (P := P) hb2 (some c) hk'
        exact ⟨_, _, hr, .inr ⟨rfl, c, (hIx c).putObj _ hi3 (by omega) hl rfl, hb4⟩⟩
      cases e with
      | normal =>
        obtain ⟨hk', hkp, hi3⟩ := hp
        obtain ⟨hr, hl, hb4⟩ := round_end (P := P) hb2 none hk'
        exact ⟨_, _, hr, .inl ⟨rfl, ⟨hI.putObj _ hi3 (by omega) hl rfl, hb4⟩, hKt (hKt k2 hkp) (hKb _ _ _ _ (by omega) hl rfl rfl)⟩⟩
      | ret => exact left _ hp.1 hp.2
      | exit id => exact left _ hp.1 hp.2
      | goto t => exact left _ hp.1 hp.2
      | panic _ => exact hp.elim
      | outgrown => exact hp.elim
    · rintro e W2 ⟨⟨v, rfl⟩, (⟨hi, hb⟩ | ⟨k, hk, c, hi, hb⟩)⟩
      · exact ⟨none, _, run_endLoop hb.1 (by simp [r]), hdone _ _ (Nat.le_refl _) (hI.putObj _ hi (by omega) hb.1 rfl) (hb.put _).2⟩
      · exact ⟨some c, _, run_endLoop hb.1 (by simp), hstop _ c k _ (Nat.le_refl _) hk ((hIx c).putObj _ hi (by omega) hb.1 rfl) (hb.put _).2⟩

/-- The same within a round of the loop l₀. -/
theorem range_lawN {l₀ : Nat} {r₀ : Loop} {g : Operand} {ps : Array Tmp} {assign body : Code} {Q : Exit → Act → World → Prop} {a : Act} {w : World} (hl₀ : w.heap[l₀]? = some (.loop r₀)) (h1 : 1 ≤ n) {gf : Nat} {lb : Array Value} (hg : a.eval g = .func (.func gf) #[] lb)
    (eg : ∀ args w, (callFunc gf args).run P w = .ok (.enter gf args) w) {encs : α → Array Value} {Kp : World → World → Prop} {xs : List α} (hseq : SeqO (n - 1) P gf lb encs Kp xs w)
    (hKt : ∀ {A B C : World}, Kp A B → Kp B C → Kp A C) (hKb : ∀ (W : World) (l : Nat) (o o' : Obj), w.heap.size ≤ l → W.heap[l]? = some o → o.isCells = false → o.isWalk = false → Kp W (W.putObj l o'))
    (hps : ∀ x, (encs x).size = ps.size)
    (I : Nat → World → Prop) (Ix : Code → Nat → World → Prop) (hI : OwnFrom w.heap.size I) (hIx : ∀ c, OwnFrom w.heap.size (Ix c))
    (h0 : I 0 w) (a₁ : α → Act)
    (hassign : ∀ (l : Nat) (x : α) (W : World) (K : Act → World → Prop), K (a₁ x) W →
      assign.wpIn (Fence.wide.inRound l) (n - 1 - 1) P (Exit.then K (fun _ _ _ => False)) { tmps := (ps.zip (encs x)).foldl (fun t (p, v) => t.setIfInBounds p v) a.tmps, defers := [] } W)
    (hbody : ∀ (l k : Nat) (h : k < xs.length) (W : World), I k W → body.wpIn (Fence.wide.inRound l) (n - 1 - 1) P (postL w.heap.size Kp I Ix k W) (a₁ xs[k]) W)
    (hdone : ∀ (W : World), I xs.length W → Q .normal a W)
    (hstop : ∀ (c : Code) (k : Nat) (W : World), k < xs.length → Ix c k W → c.wpIn (Fence.wide.inRound l₀) n P Q a W) :
    (Code.rangeFunc g ps assign body).wpIn (Fence.wide.inRound l₀) n P Q a w := by
  refine wpIn_rangeFunc fun fn _ => ?_
  generalize hD : w.heap.size = D at *
  let r : Loop := { state := .ready, pending := none, fn, tmps := a.tmps, params := ps, assign, body, defers := r₀.defers }
  let w1 : World := w.alloc (.loop r)
  have bk1 : w1.heap[D]? = some (.loop r) := by rw [← hD]; exact World.alloc_heap_new w _
  have hs1 : w1.heap.size = D + 1 := by simp [w1, hD]
  have i1 : I 0 w1 := hI.alloc _ h0
  have b1 : Below w.heap.size w w1 := (Below.refl _ w).alloc (Nat.le_refl _) _
  refine ⟨D, [], w1, { target := .fn (.func gf) lb, args := #[.func (.yield D) #[] #[]] }, w1, gf, #[.func (.yield D) #[] #[]] ++ lb, w1, ?_, ?_, fun _ _ => trivial, ?_, fun _ => h1, ?_⟩
  · rw [← hD]
    have := run_enterLoop_inner (P := P) hl₀ fn a.tmps ps assign body
    simp only [w1, r]
    exact this
  · simp only [resolve, hg]
    simp [go_sem]
  · simp [invoke, go_sem, eg]
  · refine (CallsIn.inRound l₀ (hseq D (fun k W => I k W ∧ W.heap[D]? = some (.loop r)) (fun k W => ∃ c, Ix c k W ∧ W.heap[D]? = some (.loop { r with state := .done, pending := some c })) w1 b1
      (fun s X Y row h hg hr => ⟨hI s X Y row h.1 hg (fun q e => ⟨by have := (hr q e).1; omega, (hr q e).2⟩), (hg.block _ (ltAt h.2) fun e => by have := (hr _ e.symm).1; omega).trans h.2⟩) ?_ ⟨i1, bk1⟩)).mono ?_
    · rintro k hk W ⟨hi, hb⟩
      refine ⟨fn, _, assign, body, run_yield hb (hps xs[k]), roundIn_of_wpIn trivial (hassign _ xs[k] W _ ⟨_, run_beginRound hb rfl, ?_⟩)⟩
      have hlt := ltAt hb
      have hb2 : (W.putObj D (.loop { r with state := .busy })).heap[D]? = some (.loop { r with state := .busy }) := World.putObj_heap_same hlt
      have k2 : Kp W (W.putObj D (.loop { r with state := .busy })) := hKb _ _ _ _ (Nat.le_refl _) hb rfl rfl
      refine wpIn_mono (hbody _ k hk _ (hI.putObj _ hi (Nat.le_refl _) hb rfl)) fun e a3 W3 hp => ?_
      have fin : ∀ (jump : Option Code), KeepsFrom D (W.putObj D (.loop { r with state := .busy })) W3 → (Instr.endRound D jump).run P W3 = .ok (.bool jump.isNone) (W3.putObj D (.loop { r with state := if jump.isNone then .ready else .done, pending := jump })) ∧ W3.heap[D]? = some (.loop { r with state := .busy }) ∧
          (W3.putObj D (.loop { r with state := if jump.isNone then .ready else .done, pending := jump })).heap[D]? = some (.loop { r with state := if jump.isNone then .ready else .done, pending := jump }) := fun jump hk' =>
        have hl3 := hk'.same _ _ (Nat.le_refl _) hb2 rfl
        ⟨by have := run_endRound (P := P) jump hl3; exact this, hl3, World.putObj_heap_same (ltAt hl3)⟩
      have left : ∀ c, KeepsFrom D (W.putObj D (.loop { r with state := .busy })) W3 → Ix c k W3 → ∃ v W4, (Instr.endRound D (some c)).run P W3 = .ok v W4 ∧ ((Ending.returned v = .returned (.bool true) ∧ (I (k + 1) W4 ∧ W4.heap[D]? = some (.loop r)) ∧ Kp W W4) ∨ (Ending.returned v = .returned (.bool false) ∧ ∃ c, Ix c k W4 ∧ W4.heap[D]? = some (.loop { r with state := .done, pending := some c }))) := fun c hk' hi3 => by
        obtain ⟨hr, hl, hb4⟩ := fin (some c) hk'
        exact ⟨_, _, hr, .inr ⟨rfl, c, (hIx c).putObj _ hi3 (Nat.le_refl _) hl rfl, hb4⟩⟩
      cases e with
      | normal =>
        obtain ⟨hk', hkp, hi3⟩ := hp
        obtain ⟨hr, hl, hb4⟩ := fin none hk'
        exact ⟨_, _, hr, .inl ⟨rfl, ⟨hI.putObj _ hi3 (Nat.le_refl _) hl rfl, hb4⟩, hKt (hKt k2 hkp) (hKb _ _ _ _ (Nat.le_refl _) hl rfl rfl)⟩⟩
      | ret => exact left _ hp.1 hp.2
      | exit id => exact left _ hp.1 hp.2
      | goto t => exact left _ hp.1 hp.2
      | panic _ => exact hp.elim
      | outgrown => exact hp.elim
    · rintro e W2 ⟨⟨v, rfl⟩, (⟨hi, hb⟩ | ⟨k, hk, c, hi, hb⟩)⟩
      · exact ⟨none, _, run_endLoop hb (by simp [r]), hdone _ (hI.putObj _ hi (Nat.le_refl _) hb rfl)⟩
      · exact ⟨some c, _, run_endLoop hb (by simp), hstop c k _ hk ((hIx c).putObj _ hi (Nat.le_refl _) hb rfl)⟩
end

/-- From A to C nothing but blocks of T has changed from B on; what is no cells lies as it lay; T' has no older block that T had not. -/
structure KT (B : Nat) (T : Nat → Prop) (A : World) (T' : Nat → Prop) (C : World) : Prop where
  keep : KeepsFrom B A C
  same : ∀ b, B ≤ b → b < A.heap.size → ¬ T b → C.heap[b]? = A.heap[b]?
  old : ∀ b, b < A.heap.size → T' b → T b
theorem KT.refl (B : Nat) (T : Nat → Prop) (A : World) : KT B T A T A := ⟨KeepsFrom.refl _ _, fun _ _ _ _ => rfl, fun _ _ h => h⟩
theorem KT.trans {B : Nat} {T T' T'' : Nat → Prop} {X Y Z : World} (h : KT B T X T' Y) (k : KT B T' Y T'' Z) : KT B T X T'' Z :=
  ⟨h.keep.trans k.keep, fun b hB hb hT => (k.same b hB (Nat.lt_of_lt_of_le hb h.keep.size) fun e => hT (h.old b hb e)).trans (h.same b hB hb hT), fun b hb e => h.old b hb (k.old b (Nat.lt_of_lt_of_le hb h.keep.size) e)⟩
theorem KT.mono {B B' : Nat} {T T' : Nat → Prop} {X Y : World} (h : KT B T X T' Y) (hB : B ≤ B') : KT B' T X T' Y :=
  ⟨⟨h.keep.size, fun k o hk => h.keep.same k o (Nat.le_trans hB hk)⟩, fun b hb => h.same b (Nat.le_trans hB hb), h.old⟩
theorem KT.own {β : Type} {B B' : Nat} {T : Nat → Prop} {X : World} (hB : X.heap.size ≤ B') : OwnFrom B' (fun (s : (Nat → Prop) × β) W => KT B T X s.1 W) := fun _ A C row h hg hr =>
  ⟨ownFrom_keepsFrom (β := Unit) hB () A C row h.keep hg hr, fun b h1 h2 h3 => (hg.block b (Nat.lt_of_lt_of_le h2 h.keep.size) fun e => by have := (hr _ e.symm).1; omega).trans (h.same b h1 h2 h3), h.old⟩
theorem KT.put {B l : Nat} {T : Nat → Prop} {W : World} {o : Obj} (hl : l < B) : KT B T W T (W.putObj l o) :=
  have e : ∀ k, l ≠ k → (W.putObj l o).heap[k]? = W.heap[k]? := fun k h => World.putObj_heap_other h.symm
  ⟨⟨by simp [World.putObj], fun k o hk h _ => (e k (by omega)).trans h⟩, fun b hb _ _ => e b (by omega), fun _ _ h => h⟩
theorem OwnFrom.up {β : Type} {B B' : Nat} {I : β → World → Prop} (h : OwnFrom B I) (hB : B ≤ B') : OwnFrom B' I := fun s A C row hi hg hr => h s A C row hi hg fun r e => ⟨Nat.le_trans hB (hr r e).1, (hr r e).2⟩

end Go.Proofs.Ytompaldhnbcikaa

/- Ranges over functions that take away what they hand over: who asks makes memory, so does who hands over; what is handed over hangs on what was. Own work; no statement. -/
set_option linter.unusedSimpArgs false
set_option linter.unusedVariables false
namespace Go.Proofs.Ytompaldhnbcikaa
open Go.RowKit Go.Shelf

section
variable {P : Program} {n : Nat}

/-- The iterator's contract: where k have been handed over the state is St k; a value that Gv k tells is handed over next; it ends where Fin k. It makes new memory alone. -/
def SeqF (n : Nat) (P : Program) (g : Nat) (lb : Array Value) (St : Nat → World → Prop) (Gv : Nat → Value → World → Prop) (Fin : Nat → Prop) (w : World) : Prop :=
  ∀ (l : Nat) (J : Nat → World → Prop) (Jx : World → Prop) (W : World), Below w.heap.size w W → (∀ k A, J k A → St k A) → (∀ k A B, J k A → Below A.heap.size A B → J k B) →
    (∀ k A v, J k A → Gv k v A → YieldAt Fence.wide (n - 1) P l #[v] A fun e C => (e = .returned (.bool true) ∧ J (k + 1) C) ∨ (e = .returned (.bool false) ∧ Jx C)) →
    J 0 W → CallsIn Fence.wide n P g (#[.func (.yield l) #[] #[]] ++ lb) W fun e B => (∃ v, e = .returned v) ∧ ((∃ k, Fin k ∧ J k B) ∨ Jx B)

/-- How the body of a round may be left. -/
def postF (B : Nat) (I : Nat → World → Prop) (Ix : Code → World → Prop) (k : Nat) (W : World) : Exit → Act → World → Prop
  | .normal, _, W' => KeepsFrom B W W' ∧ I (k + 1) W'
  | .ret, _, W' => KeepsFrom B W W' ∧ Ix .ret W'
  | .exit id, _, W' => KeepsFrom B W W' ∧ Ix (.exit id) W'
  | .goto t, _, W' => KeepsFrom B W W' ∧ Ix (.goto t) W'
  | .panic _, _, _ => False
  | .outgrown, _, _ => False

theorem range_lawF {g : Operand} {p : Tmp} {assign body : Code} {Q : Exit → Act → World → Prop} {a : Act} {w : World} (h1 : 1 ≤ n) {gf : Nat} {lb : Array Value} (hg : a.eval g = .func (.func gf) #[] lb)
    (eg : ∀ args w, (callFunc gf args).run P w = .ok (.enter gf args) w) {St : Nat → World → Prop} {Gv : Nat → Value → World → Prop} {Fin : Nat → Prop} (hseq : SeqF (n - 1) P gf lb St Gv Fin w)
    (I : Nat → World → Prop) (Ix : Code → World → Prop) (hIS : ∀ k W, I k W → St k W) (hIb : ∀ k A B, I k A → Below A.heap.size A B → I k B) (hI : OwnFrom w.heap.size I) (hIx : OwnFrom w.heap.size Ix) (hG : ∀ v, OwnFrom w.heap.size fun k => Gv k v)
    (hGb : ∀ k v A B, Gv k v A → Below A.heap.size A B → Gv k v B)
    (h0 : I 0 w) (Ax : Value → Act → World → Prop) (hAx : ∀ v a', OwnFrom w.heap.size (fun (_ : Unit) W => Ax v a' W))
    (hassign : ∀ (l k : Nat) (v : Value) (W : World) (K : Act → World → Prop), I k W → Gv k v W → (∀ a' W', Below W.heap.size W W' → Ax v a' W' → K a' W') →
      assign.wpIn (Fence.wide.inRound l) (n - 1 - 1) P (Exit.then K (fun _ _ _ => False)) { tmps := ((#[p] : Array Tmp).zip #[v]).foldl (fun t (p, v) => t.setIfInBounds p v) a.tmps, defers := [] } W)
    (hbody : ∀ (l k : Nat) (v : Value) (a' : Act) (W : World), w.heap.size ≤ l → (∃ r, W.heap[l]? = some (.loop r)) → I k W → Gv k v W → Ax v a' W → body.wpIn (Fence.wide.inRound l) (n - 1 - 1) P (postF w.heap.size I Ix k W) a' W)
    (hdone : ∀ (D k : Nat) (W : World), w.heap.size ≤ D → Fin k → I k W → W.heap[D]? = some (.deferred (some [])) → Q .normal { a with defers := { target := .collected D, args := #[] } :: a.defers } W)
    (hstop : ∀ (D : Nat) (c : Code) (W : World), w.heap.size ≤ D → Ix c W → W.heap[D]? = some (.deferred (some [])) → c.wpIn Fence.wide n P Q { a with defers := { target := .collected D, args := #[] } :: a.defers } W) :
    (Code.rangeFunc g #[p] assign body).wpIn Fence.wide n P Q a w := by
  refine wpIn_rangeFunc fun fn _ => ?_
  generalize hD : w.heap.size = D at *
  let r : Loop := { state := .ready, pending := none, fn, tmps := a.tmps, params := #[p], assign, body, defers := D }
  let w1 : World := (w.alloc (.deferred (some []))).alloc (.loop r)
  have bk1 : Book D r w1 := by
    refine ⟨?_, ?_⟩
    · have := World.alloc_heap_new (w.alloc (.deferred (some []))) (.loop r)
      rwa [World.size_alloc, hD] at this
    · have := World.alloc_heap_new w (.deferred (some []))
      rw [hD] at this
      exact (Below.heap_alloc _ _ _ (by simp; omega)).trans this
  have i1 : I 0 w1 := hI.alloc _ (hI.alloc _ h0)
  have b1 : Below w.heap.size w w1 := ((Below.refl _ w).alloc (Nat.le_refl _) _).alloc (by simp) _
  refine ⟨D + 1, [{ target := .collected D, args := #[] }], w1, { target := .fn (.func gf) lb, args := #[.func (.yield (D + 1)) #[] #[]] }, w1, gf, #[.func (.yield (D + 1)) #[] #[]] ++ lb, w1, ?_, ?_, fun _ _ => trivial, ?_, fun _ => h1, ?_⟩
  · rw [← hD]
    have := run_enterLoop_outer (P := P) (w := w) fn a.tmps #[p] assign body
    simp only [w1, r, ← hD]
    exact this
  · simp only [resolve, hg]
    simp [go_sem]
  · simp [invoke, go_sem, eg]
  · refine (hseq (D + 1) (fun k W => I k W ∧ Book D r W) (fun W => ∃ c, Ix c W ∧ Book D { r with state := .done, pending := some c } W) w1 b1 (fun k A h => hIS k A h.1)
      (fun k A B h hb => ⟨hIb k A B h.1 hb, (hb.block _ (ltAt h.2.1)).trans h.2.1, (hb.block _ (ltAt h.2.2)).trans h.2.2⟩) ?_ ⟨i1, bk1⟩).mono ?_
    · rintro k W v ⟨hi, hb⟩ hv
      refine ⟨fn, _, assign, body, run_yield hb.1 (by simp [r]), roundIn_of_wpIn trivial (hassign _ k v W _ hi hv fun a' W' hbe hax => ?_)⟩
      have hbW : Book D r W' := ⟨(hbe.block _ (ltAt hb.1)).trans hb.1, (hbe.block _ (ltAt hb.2)).trans hb.2⟩
      refine ⟨_, run_beginRound hbW.1 rfl, ?_⟩
      have hb2 := hbW.put { r with state := .busy }
      refine wpIn_mono (hbody _ k v a' _ (by omega) ⟨_, hb2.1⟩ (hI.putObj _ (hIb _ _ _ hi hbe) (by omega) hbW.1 rfl) ((hG v).putObj (s := k) _ (hGb _ _ _ _ hv hbe) (by omega) hbW.1 rfl) ((hAx v a').putObj (s := ()) _ hax (by omega) hbW.1 rfl)) fun e a3 W3 hp => ?_
      have left : ∀ c, KeepsFrom D (W'.putObj (D + 1) (.loop { r with state := .busy })) W3 → Ix c W3 → ∃ v W4, (Instr.endRound (D + 1) (some c)).run P W3 = .ok v W4 ∧ ((Ending.returned v = .returned (.bool true) ∧ (I (k + 1) W4 ∧ Book D r W4)) ∨ (Ending.returned v = .returned (.bool false) ∧ ∃ c, Ix c W4 ∧ Book D { r with state := .done, pending := some c } W4)) := fun c hk' hi3 => by
        obtain ⟨hr, hl, hb4⟩ := round_end (P := P) hb2 (some c) hk'
        exact ⟨_, _, hr, .inr ⟨rfl, c, hIx.putObj _ hi3 (by omega) hl rfl, hb4⟩⟩
      cases e with
      | normal =>
        obtain ⟨hk', hi3⟩ := hp
        obtain ⟨hr, hl, hb4⟩ := round_end (P := P) hb2 none hk'
        exact ⟨_, _, hr, .inl ⟨rfl, ⟨hI.putObj _ hi3 (by omega) hl rfl, hb4⟩⟩⟩
      | ret => exact left _ hp.1 hp.2
      | exit id => exact left _ hp.1 hp.2
      | goto t => exact left _ hp.1 hp.2
      | panic _ => exact hp.elim
      | outgrown => exact hp.elim
    · rintro e W2 ⟨⟨v, rfl⟩, (⟨k, hfin, hi, hb⟩ | ⟨c, hi, hb⟩)⟩
      · exact ⟨none, _, run_endLoop hb.1 (by simp [r]), hdone _ k _ (Nat.le_refl _) hfin (hI.putObj _ hi (by omega) hb.1 rfl) (hb.put _).2⟩
      · exact ⟨some c, _, run_endLoop hb.1 (by simp), hstop _ c _ (Nat.le_refl _) (hIx.putObj _ hi (by omega) hb.1 rfl) (hb.put _).2⟩

/-- The outer iterator's contract: who asks has blocks T of his own, and lets the iterator's alone (Kp); the iterator turns blocks of X, and makes new memory. -/
def SeqQ (n : Nat) (P : Program) (g : Nat) (lb : Array Value) (X : Nat → Prop) (Kp : World → World → Prop) (St : Nat → World → Prop) (Gv : Nat → Value → World → Prop) (Fin : Nat → Prop) (w : World) : Prop :=
  ∀ (l : Nat) (J : Nat → (Nat → Prop) → World → Prop) (Jx : Nat → World → Prop) (W : World), Below w.heap.size w W → (∀ T, OwnFrom W.heap.size (fun k => J k T)) → OwnFrom W.heap.size Jx → (∀ k T A, J k T A → ∀ b, T b → b < A.heap.size) →
    (∀ k T A B, J k T A → Touch X A B → J k T B) →
    (∀ k T A v, J k T A → St (k + 1) A → Gv k v A → YieldAt Fence.wide (n - 1) P l #[v] A fun e C => (e = .returned (.bool true) ∧ (∃ T', J (k + 1) T' C ∧ KT W.heap.size T A T' C) ∧ Kp A C) ∨ (e = .returned (.bool false) ∧ Jx (k + 1) C ∧ KeepsFrom W.heap.size A C ∧ Kp A C)) →
    (∃ T, J 0 T W) → CallsIn Fence.wide n P g (#[.func (.yield l) #[] #[]] ++ lb) W fun e B => (∃ v, e = .returned v) ∧ ((∃ k T, Fin k ∧ J k T B ∧ St k B) ∨ ∃ k, Jx k B ∧ St k B)

/-- How the body of a round may be left. -/
def postQ (B : Nat) (Kp : World → World → Prop) (I : Nat → (Nat → Prop) → World → Prop) (Ix : Code → Nat → World → Prop) (k : Nat) (T : Nat → Prop) (W : World) : Exit → Act → World → Prop
  | .normal, _, W' => (∃ T', I (k + 1) T' W' ∧ KT B T W T' W') ∧ Kp W W'
  | .ret, _, W' => KeepsFrom B W W' ∧ Kp W W' ∧ Ix .ret (k + 1) W'
  | .exit id, _, W' => KeepsFrom B W W' ∧ Kp W W' ∧ Ix (.exit id) (k + 1) W'
  | .goto t, _, W' => KeepsFrom B W W' ∧ Kp W W' ∧ Ix (.goto t) (k + 1) W'
  | .panic _, _, _ => False
  | .outgrown, _, _ => False

theorem range_lawQ {g : Operand} {p : Tmp} {assign body : Code} {Q : Exit → Act → World → Prop} {a : Act} {w : World} (h1 : 1 ≤ n) {gf : Nat} {lb : Array Value} (hg : a.eval g = .func (.func gf) #[] lb)
    (eg : ∀ args w, (callFunc gf args).run P w = .ok (.enter gf args) w) {X : Nat → Prop} {Kp : World → World → Prop} {St : Nat → World → Prop} {Gv : Nat → Value → World → Prop} {Fin : Nat → Prop} (hseq : SeqQ (n - 1) P gf lb X Kp St Gv Fin w)
    (hX : ∀ b, X b → b < w.heap.size) (hKt : ∀ {A B C : World}, Kp A B → Kp B C → Kp A C) (hKb : ∀ (W : World) (l : Nat) (o o' : Obj), w.heap.size ≤ l → W.heap[l]? = some o → o.isCells = false → o.isWalk = false → Kp W (W.putObj l o'))
    (hSt : OwnFrom w.heap.size St) (hG : ∀ v, OwnFrom w.heap.size fun k => Gv k v)
    (I : Nat → (Nat → Prop) → World → Prop) (Ix : Code → Nat → World → Prop) (hI : ∀ T, OwnFrom w.heap.size (fun k => I k T)) (hIT : ∀ k T W, I k T W → ∀ b, T b → b < W.heap.size) (hIX : ∀ k T A B, I k T A → Touch X A B → I k T B) (hIx : ∀ c, OwnFrom w.heap.size (Ix c))
    (h0 : ∃ T, I 0 T w) (Ax : Value → Act → World → Prop) (hAx : ∀ v a', OwnFrom w.heap.size (fun (_ : Unit) W => Ax v a' W))
    (hassign : ∀ (l k : Nat) (T : Nat → Prop) (v : Value) (W : World) (K : Act → World → Prop), I k T W → Gv k v W → (∀ a' W', Below W.heap.size W W' → Ax v a' W' → K a' W') →
      assign.wpIn (Fence.wide.inRound l) (n - 1 - 1) P (Exit.then K (fun _ _ _ => False)) { tmps := ((#[p] : Array Tmp).zip #[v]).foldl (fun t (p, v) => t.setIfInBounds p v) a.tmps, defers := [] } W)
    (hKn : ∀ A B, Below A.heap.size A B → w.heap.size ≤ A.heap.size → Kp A B) (hGb : ∀ k v A B, Gv k v A → Below A.heap.size A B → Gv k v B) (hSb : ∀ k A B, St k A → Below A.heap.size A B → St k B) (hIz : ∀ k T W, I k T W → w.heap.size ≤ W.heap.size)
    (hbody : ∀ (l k : Nat) (T : Nat → Prop) (v : Value) (a' : Act) (W : World), w.heap.size ≤ l → (∃ r, W.heap[l]? = some (.loop r)) → I k T W → St (k + 1) W → Gv k v W → Ax v a' W → body.wpIn (Fence.wide.inRound l) (n - 1 - 1) P (postQ w.heap.size Kp I Ix k T W) a' W)
    (hdone : ∀ (D k : Nat) (T : Nat → Prop) (W : World), w.heap.size ≤ D → Fin k → I k T W → St k W → W.heap[D]? = some (.deferred (some [])) → Q .normal { a with defers := { target := .collected D, args := #[] } :: a.defers } W)
    (hstop : ∀ (D : Nat) (c : Code) (k : Nat) (W : World), w.heap.size ≤ D → Ix c k W → St k W → W.heap[D]? = some (.deferred (some [])) → c.wpIn Fence.wide n P Q { a with defers := { target := .collected D, args := #[] } :: a.defers } W) :
    (Code.rangeFunc g #[p] assign body).wpIn Fence.wide n P Q a w := by
  refine wpIn_rangeFunc fun fn _ => ?_
  generalize hD : w.heap.size = D at *
  let r : Loop := { state := .ready, pending := none, fn, tmps := a.tmps, params := #[p], assign, body, defers := D }
  let w1 : World := (w.alloc (.deferred (some []))).alloc (.loop r)
  have bk1 : Book D r w1 := by
    refine ⟨?_, ?_⟩
    · have := World.alloc_heap_new (w.alloc (.deferred (some []))) (.loop r)
      rwa [World.size_alloc, hD] at this
    · have := World.alloc_heap_new w (.deferred (some []))
      rw [hD] at this
      exact (Below.heap_alloc _ _ _ (by simp; omega)).trans this
  have hs1 : w1.heap.size = D + 2 := by simp [w1, hD]
  obtain ⟨T0, h0⟩ := h0
  have i1 : I 0 T0 w1 := (hI T0).alloc _ ((hI T0).alloc _ h0)
  have b1 : Below w.heap.size w w1 := ((Below.refl _ w).alloc (Nat.le_refl _) _).alloc (by simp) _
  refine ⟨D + 1, [{ target := .collected D, args := #[] }], w1, { target := .fn (.func gf) lb, args := #[.func (.yield (D + 1)) #[] #[]] }, w1, gf, #[.func (.yield (D + 1)) #[] #[]] ++ lb, w1, ?_, ?_, fun _ _ => trivial, ?_, fun _ => h1, ?_⟩
  · rw [← hD]
    have := run_enterLoop_outer (P := P) (w := w) fn a.tmps #[p] assign body
    simp only [w1, r, ← hD]
    exact this
  · simp only [resolve, hg]
    simp [go_sem]
  · simp [invoke, go_sem, eg]
  · refine (hseq (D + 1) (fun k T W => I k T W ∧ Book D r W) (fun k W => ∃ c, Ix c k W ∧ Book D { r with state := .done, pending := some c } W) w1 b1
      (fun T s X Y row h hg hr => ⟨hI T s X Y row h.1 hg (fun q e => ⟨by have := (hr q e).1; omega, (hr q e).2⟩), book_own (β := Unit) () X Y row h.2 hg (fun q e => ⟨by have := (hr q e).1; omega, (hr q e).2⟩)⟩)
      (fun s X Y row h hg hr => let ⟨c, h1, h2⟩ := h; ⟨c, hIx c s X Y row h1 hg (fun q e => ⟨by have := (hr q e).1; omega, (hr q e).2⟩), book_own (β := Unit) () X Y row h2 hg (fun q e => ⟨by have := (hr q e).1; omega, (hr q e).2⟩)⟩)
      (fun k T A h => hIT k T A h.1)
      (fun k T A B h ht => ⟨hIX k T A B h.1 ht, (ht.block _ (ltAt h.2.1) fun e => by have := hX _ e; omega).trans h.2.1, (ht.block _ (ltAt h.2.2) fun e => by have := hX _ e; omega).trans h.2.2⟩) ?_ ⟨T0, i1, bk1⟩).mono ?_
    · rintro k T W v ⟨hi, hb⟩ hst hv
      refine ⟨fn, _, assign, body, run_yield hb.1 (by simp [r]), roundIn_of_wpIn trivial (hassign _ k T v W _ hi hv fun a' W' hbe hax => ?_)⟩
      have hWz := hIz k T W hi
      have hbW : Book D r W' := ⟨(hbe.block _ (ltAt hb.1)).trans hb.1, (hbe.block _ (ltAt hb.2)).trans hb.2⟩
      have hi' : I k T W' := hIX k T W W' hi (touch_new hbe)
      refine ⟨_, run_beginRound hbW.1 rfl, ?_⟩
      have hb2 := hbW.put { r with state := .busy }
      have k2 : KT w1.heap.size T W T (W'.putObj (D + 1) (.loop { r with state := .busy })) :=
        KT.trans (Y := W') ⟨⟨hbe.size, fun c o _ h _ => (hbe.block c (ltAt h)).trans h⟩, fun c _ hc _ => hbe.block c hc, fun _ _ h => h⟩ (KT.put (by omega))
      have g2 : Kp W (W'.putObj (D + 1) (.loop { r with state := .busy })) := hKt (hKn W W' hbe hWz) (hKb _ _ _ _ (by omega) hbW.1 rfl rfl)
      refine wpIn_mono (hbody _ k T v a' _ (by omega) ⟨_, hb2.1⟩ ((hI T).putObj _ hi' (by omega) hbW.1 rfl) (hSt.putObj _ (hSb _ _ _ hst hbe) (by omega) hbW.1 rfl) ((hG v).putObj (s := k) _ (hGb _ _ _ _ hv hbe) (by omega) hbW.1 rfl) ((hAx v a').putObj (s := ()) _ hax (by omega) hbW.1 rfl)) fun e a3 W3 hp => ?_
      have left : ∀ c, KeepsFrom D (W'.putObj (D + 1) (.loop { r with state := .busy })) W3 → Kp (W'.putObj (D + 1) (.loop { r with state := .busy })) W3 → Ix c (k + 1) W3 → ∃ v W4, (Instr.endRound (D + 1) (some c)).run P W3 = .ok v W4 ∧ ((Ending.returned v = .returned (.bool true) ∧ (∃ T', (I (k + 1) T' W4 ∧ Book D r W4) ∧ KT w1.heap.size T W T' W4) ∧ Kp W W4) ∨ (Ending.returned v = .returned (.bool false) ∧ (∃ c, Ix c (k + 1) W4 ∧ Book D { r with state := .done, pending := some c } W4) ∧ KeepsFrom w1.heap.size W W4 ∧ Kp W W4)) := fun c hk' hkp hi3 => by
        obtain ⟨hr, hl, hb4⟩ := round_end (P := P) hb2 (some c) hk'
        exact ⟨_, _, hr, .inr ⟨rfl, ⟨c, (hIx c).putObj _ hi3 (by omega) hl rfl, hb4⟩, (k2.keep.trans ⟨hk'.size, fun k o h => hk'.same k o (by omega)⟩).trans (KT.put (T := T) (by omega)).keep, hKt (hKt g2 hkp) (hKb _ _ _ _ (by omega) hl rfl rfl)⟩⟩
      cases e with
      | normal =>
        obtain ⟨⟨T', hi3, hkt⟩, hkg⟩ := hp
        obtain ⟨hr, hl, hb4⟩ := round_end (P := P) hb2 none hkt.keep
        exact ⟨_, _, hr, .inl ⟨rfl, ⟨T', ⟨(hI T').putObj _ hi3 (by omega) hl rfl, hb4⟩, (k2.trans (hkt.mono (by omega))).trans (KT.put (by omega))⟩, hKt (hKt g2 hkg) (hKb _ _ _ _ (by omega) hl rfl rfl)⟩⟩
      | ret => exact left _ hp.1 hp.2.1 hp.2.2
      | exit id => exact left _ hp.1 hp.2.1 hp.2.2
      | goto t => exact left _ hp.1 hp.2.1 hp.2.2
      | panic _ => exact hp.elim
      | outgrown => exact hp.elim
    · rintro e W2 ⟨⟨v, rfl⟩, (⟨k, T, hfin, ⟨hi, hb⟩, hst⟩ | ⟨k, ⟨c, hi, hb⟩, hst⟩)⟩
      · exact ⟨none, _, run_endLoop hb.1 (by simp [r]), hdone _ k T _ (Nat.le_refl _) hfin ((hI T).putObj _ hi (by omega) hb.1 rfl) (hSt.putObj _ hst (by omega) hb.1 rfl) (hb.put _).2⟩
      · exact ⟨some c, _, run_endLoop hb.1 (by simp), hstop _ c k _ (Nat.le_refl _) ((hIx c).putObj _ hi (by omega) hb.1 rfl) (hSt.putObj _ hst (by omega) hb.1 rfl) (hb.put _).2⟩
end

end Go.Proofs.Ytompaldhnbcikaa
