/- Own work: the parts TK12 of the proof, laid together. -/
import Derived.Test.YtdkpbfigjdmfpaaPartTokenChain11
/- The law TokenChain of layer 9 (written by tools/chain9.py). Own work; no statement. -/
set_option linter.unusedSimpArgs false
set_option linter.unusedVariables false
namespace Go.Proofs.Ytdkpbfigjdmfpaa
open Go.RowKit Go.Shelf Go.Sort

/-- A record of a site, that hangs on nothing, as a draft without a ticket. -/
def dG (site seq : Int) : DrD := ⟨0, ⟨site, seq, [], ⟨#[107]⟩, ⟨#[]⟩⟩⟩
theorem dG_ok {site seq : Int} (h1 : 0 ≤ site ∧ site ≤ 7) (h2 : 0 ≤ seq ∧ seq ≤ 1048576) : DrOk (dG site seq) := ⟨h1, h2, by simp [dG]⟩
theorem dG_lit {w : World} {b : Nat} {site seq : Int} {f : Nat × Nat} (h : w.heap[b]? = some (.cells #[.int .i64 0, .int .i64 site, .int .i64 seq, .slice none 0 0, .string ⟨#[107]⟩, .string ⟨#[]⟩] 41 f)) : IsDrs w (.slice (some ⟨b, 0, none⟩) 1 1) [dG site seq] :=
  IsDrs.lit (l := [⟨dG site seq, .slice none 0 0⟩]) h rfl (by intro q hq; simp only [List.mem_cons, List.not_mem_nil, or_false] at hq; subst hq; exact IsNums.nil _ _ _ _) (by simp)
theorem dG_calls {site seq : Int} (h : seq ≠ 0) (V : World) : Calls Try.prog 26 #[.int .i64 site, .int .i64 seq, .slice none 0 0] V fun e w' => e = .returned (.agg #[.int .i64 0, .int .i64 site, .int .i64 seq, .slice none 0 0, .string ⟨#[107]⟩, .string ⟨#[]⟩]) ∧ w' = V.alloc (.cells #[.int .i64 0, .int .i64 site, .int .i64 seq, .slice none 0 0, .string ⟨#[107]⟩, .string ⟨#[]⟩] 41) := by
  have := lawD_calls site seq (.slice none 0 0) [] V (IsNums.of_row (World.ownsRow_nil _ 0 3 1))
  rwa [if_neg h] at this
theorem TokWf.mono {t : TokD} {N N' : Nat} {C C' : Int} (h : TokWf t N C) (hN : N ≤ N') (hC : C ≤ C') : TokWf t N' C' := ⟨h.seen, h.late, Nat.le_trans h.len hN, h.next.1, Int.le_trans h.next.2 hC⟩
theorem rng8T {x : Int} (h : (Lit.int .u8 x).wf = true) : 0 ≤ x ∧ x ≤ 255 := by
  have h' : (decide (IntKind.u8.min ≤ x) && decide (x ≤ IntKind.u8.max)) = true := h
  simp only [Bool.and_eq_true, decide_eq_true_eq] at h'
  exact h'
theorem rem_natT {x y : Int} (h : 0 ≤ x) (hy : 0 < y) : ∃ r : Nat, x.tmod y = (r : Int) ∧ (r : Int) < y := by
  rw [Int.tmod_eq_emod_of_nonneg h]
  obtain ⟨r, hr⟩ := Int.eq_ofNat_of_zero_le (Int.emod_nonneg x (Int.ne_of_gt hy))
  exact ⟨r, hr, hr ▸ Int.emod_lt_of_pos _ hy⟩
theorem slsS_mono {K K' : Nat → Prop} {w : World} {v : Value} {l : List (Int × DrD)} (h : SlsS K w v l) (hk : ∀ k, k < w.heap.size → K k → K' k) : SlsS K' w v l := fun X hX => h X fun k h1 h2 => hX k (hk k h2 h1) h2

set_option maxHeartbeats 8000000 in
set_option maxRecDepth 100000 in
theorem tokChain_calls (n : Int) (vo : Value) (os : List Int) (w : World) (hn : (Lit.int .u8 n).wf = true) (ho : IsNums .u8 w vo os) (hos : ∀ x ∈ os, (Lit.int .u8 x).wf = true) :
    Calls Try.prog 5 #[.int .u8 n, vo] w fun e w' => e = .returned (.bool true) ∧ RowKit.Below w.heap.size w w' := by
  have n0 := rng8T hn
  clear hn
  obtain ⟨k, hk, hk2⟩ := rem_natT n0.1 (show (0 : Int) < 12 by decide)
  obtain ⟨a, cap, rfl, hcap, hcell⟩ := ho
  have Hos := hide hos
  have Hcell := hide hcell
  clear hos hcell
  have hk0 : ¬ 1 + (k : Int) = 0 := by omega
  by_cases hlong : 60 < (os.length : Int)
  · go_enter Try.func5, Try.ntmps5
    go_wp2_with fail
    refine (tokKnown_calls w).mono ?_
    rintro e w1 ⟨rfl, b1⟩
    go_wp2_with fail
    go_ret
    exact ⟨rfl, b1⟩
  go_enter Try.func5, Try.ntmps5
  go_wp2_with fail
  refine (tokKnown_calls w).mono ?_
  rintro e w1 ⟨rfl, b1⟩
  obtain ⟨W0, hW0, hsz, hB0, h0⟩ := new1T w1 #[.int .i64 0, .int .i64 0, .slice none 0 0, .slice none 0 0] 26
  have Hat : Hid (TokAt W0 w1.heap.size ⟨0, 0, [], []⟩) := hide ⟨_, _, h0, fun X _ => ⟨none, 0, none, 0, rfl, IsNums.nil _ _ _ _, IsDrs.nil _⟩⟩
  have HB1 := hide (b1.trans (hB0.mono b1.size))
  have hlow := b1.size
  have HW := hide hW0
  clear b1 hB0 h0 hsz hW0
  go_upto_region 7 with fail
  rw [HW.out]
  clear HW
  generalize w1.heap.size = tb at *
  go_wp2_with fail
  go_loopw [7, 8] (fun nx i wr => ∃ (i' : Nat) (nx' : Int) (G : List Int) (t : TokD) (N : Nat), i' ≤ os.length + (1 + k) ∧ N ≤ i' ∧ TokWf t N (100 * (i' : Int)) ∧ ChainT (1 + (k : Int)) nx' G t ∧ (∀ s : Int, 1 ≤ s → s ≤ (i' : Int) - (os.length : Int) → s ∈ G) ∧ nx = .int .i64 nx' ∧ i = .int .i64 (i' : Int) ∧ TokAt wr tb t ∧ RowKit.Below w.heap.size w wr) (fun _ i _ => os.length + (1 + k) - (intOf i).toNat)
  case atStart => exact ⟨0, 1, [], ⟨0, 0, [], []⟩, 0, Nat.zero_le _, Nat.le_refl _, ⟨seenOk_nil, fun d h => (by cases h), Nat.le_refl _, by decide⟩, chainT_new _ (by omega), fun s h1 h2 => by omega, rfl, rfl, Hat.out, HB1.out⟩
  case round =>
    clear Hat HB1
    obtain ⟨i', nx, G, t, N, hi, hN, hwf, hch, hall, rfl, rfl, ⟨sv, lv, h0, hS⟩, hB⟩ := hrel
    have hnx : 1 ≤ nx ∧ nx ≤ 2 + (k : Int) := ⟨hch.low, by have := hch.high; omega⟩
    have hlt := hwf.len
    obtain ⟨sa, sc, la, lc, he, -, -⟩ := hS.tok
    simp only [Value.agg.injEq, Array.mk.injEq, List.cons.injEq, and_true, true_and] at he
    obtain ⟨rfl, rfl⟩ := he
    have htb := ltB h0
    have H0 := hide h0
    have HS := hide hS
    have HBw := hide hB
    have Hwf := hide hwf
    have Hch := hide hch
    have Hall := hide hall
    clear h0 hS hB hwf hch hall
    by_cases h1 : (i' : Int) < (os.length : Int) + (1 + (k : Int))
    · go_upto_if 39 with fail
      go_cut [9] from 23 to 83 (fun s9 wx => ∃ s : Int, (1 ≤ s ∧ s ≤ 1 + (k : Int)) ∧ ((os.length : Int) ≤ (i' : Int) → s = (i' : Int) - (os.length : Int) + 1) ∧ s9 = .int .i64 s ∧ wx = wr)
      case first =>
        by_cases h2 : (i' : Int) < (os.length : Int)
        · obtain ⟨vb, vo, rfl, hc⟩ := Hcell.out i' (by omega)
          have hc2 := (World.cell?_of_block (a := ⟨vb, vo + i', none⟩) (HBw.out.block vb (World.block_lt_of_cell? w _ hc))).trans hc
          have hx := rng8T (Hos.out (os.getD i' 0) (by rw [List.getD_eq_getElem?_getD, List.getElem?_eq_getElem (by omega)]; exact List.getElem_mem _))
          generalize os.getD i' 0 = x at *
          obtain ⟨q, hq, hq2⟩ := rem_natT hx.1 (show (0 : Int) < 1 + (k : Int) by omega)
          go_wp2_with fail
          go_meet
          case rel => exact ⟨1 + (q : Int), ⟨by omega, by omega⟩, fun h => by omega, rfl, rfl⟩
        · go_wp2_with fail
          go_meet
          case rel => exact ⟨(i' : Int) - (os.length : Int) + 1, ⟨by omega, by omega⟩, fun h => rfl, rfl, rfl⟩
      case rest =>
        obtain ⟨s, hs, hse, rfl, hwc⟩ := hcut
        rw [hwc]
        clear hwc wc
        obtain ⟨hch2, hnum, hcnt⟩ := chainT_step Hch.out hs.1 hs.2
        have hwf2 := Hwf.out.goesOn [dC s] (by intro d hd; obtain rfl := List.mem_singleton.1 hd; exact dG_ok (site := 1) (by decide) (by omega))
        have Had : Hid (∀ (V : World) (vl : Value), RowKit.Below wr.heap.size wr V → IsDrs V vl [dG 1 s] → Calls Try.prog 17 #[.agg #[.int .i64 t.own, .int .i64 t.next, .slice sa t.seen.length sc, .slice la t.late.length lc], vl] V fun e w' => ∃ vt' vs, e = .returned (.tuple #[vt', vs]) ∧ TokS (fun k => V.heap.size ≤ k) w' vt' (admitT t [dC s]).1 ∧ SlsS (fun k => V.heap.size ≤ k) w' vs (admitT t [dC s]).2 ∧ RowKit.Below V.heap.size V w') := hide fun V vl hV hl => admit_wf _ vl t [dC s] V (HS.out.new hV).tok hl Hwf.out (by intro d hd; obtain rfl := List.mem_singleton.1 hd; exact dG_ok (site := 1) (by decide) (by omega)) (by simp; omega) (by omega)
        generalize (admitT t [dC s]).1 = tn at *
        generalize (admitT t [dC s]).2 = L at *
        have Hch2 := hide hch2
        have Hnum := hide hnum
        have Hwf2 := hide hwf2
        clear hch2 hnum hwf2
        obtain ⟨z, hz⟩ : ∃ z, wr.heap.size = z := ⟨_, rfl⟩
        go_upto_region 14 with fail
        go_cut [10, 11] from 23 to 83 (fun s10 s11 wx => ∃ ub sa' sc' la' lc' qa' qc', s10 = .pointer (some ⟨ub, 0, none⟩) ∧ s11 = .slice qa' L.length qc' ∧ z ≤ ub ∧ wx.heap[ub]? = some (.cells #[.int .i64 tn.own, .int .i64 tn.next, .slice sa' tn.seen.length sc', .slice la' tn.late.length lc'] 26 (0, 0)) ∧ TokS (fun k => z ≤ k ∧ k ≠ ub) wx (.agg #[.int .i64 tn.own, .int .i64 tn.next, .slice sa' tn.seen.length sc', .slice la' tn.late.length lc']) tn ∧ SlsS (fun k => z ≤ k ∧ k ≠ ub) wx (.slice qa' L.length qc') L ∧ RowKit.Below z wr wx)
        case first =>
          have hbd : RowKit.Below z wr wr.drew := (RowKit.Below.refl z wr).drew
          refine region_begin 11 (by kernel_rfl) rfl ?_
          replace H0 := hide (show wr.drew.heap[tb]? = _ from H0.out)
          have hz0 : wr.drew.heap.size = z := hz
          have Had0 : Hid (∀ (V : World) (vl : Value), RowKit.Below wr.drew.heap.size wr.drew V → IsDrs V vl [dG 1 s] → _) := hide fun V vl hV hl => Had.out V vl ((RowKit.Below.refl wr.heap.size wr).drew.trans hV) hl
          clear Had HS Hwf Hch Hall Hch2 Hnum Hwf2 hcnt HBw Hos Hcell
          generalize wr.drew = V0 at *
          subst hz
          have CD := hide (fun V => dG_calls (site := 1) (seq := s) (by omega) V)
          have HB := hide (RowKit.Below.refl V0.heap.size V0)
          have Htb : Hid (tb < V0.heap.size) := hide (by omega)
          have Hz0 := hide hz0
          clear hz0
          refine stretchE (g := 1) 10 10 (fun X => X.cell? ⟨tb, 0, none⟩ = some (.int .i64 t.own) ∧ X.cell? ⟨tb, 1, none⟩ = some (.int .i64 t.next) ∧ X.cell? ⟨tb, 2, none⟩ = some (.slice sa t.seen.length sc) ∧ X.cell? ⟨tb, 3, none⟩ = some (.slice la t.late.length lc)) ?_
          refine HeadE.take 0 (.agg #[.int .i64 t.own, .int .i64 t.next, .slice sa t.seen.length sc, .slice la t.late.length lc]) rfl (by kernel_rfl) (.inl ⟨rfl, fun w2 ⟨s0, s1, s2, s3⟩ => by go_simp⟩) (by obtain ⟨a, b, c, d, -⟩ := cells4T H0.out; exact ⟨a, b, c, d⟩) ?_
          refine HeadE.take 1 (.int .i64 s) rfl (by kernel_rfl) (.inl ⟨rfl, fun w2 _ => by go_simp⟩) (by obtain ⟨a, b, c, d, -⟩ := cells4T H0.out; exact ⟨a, b, c, d⟩) ?_
          refine HeadE.all (rs := [2, 8]) (by kernel_rfl) (by simp) ?_
          intro i hi
          rcases List.mem_cons.1 hi with rfl | hi
          · clear hi
            refine wpOp_call rfl rfl 26 #[.int .i64 1, .int .i64 s, .slice none 0 0] (by go_simp) (CD.out V0) ?_
            rintro e w1 ⟨rfl, rfl⟩
            have hb1 := box_below V0 (.cells #[.int .i64 0, .int .i64 1, .int .i64 s, .slice none 0 0, .string ⟨#[107]⟩, .string ⟨#[]⟩] 41)
            have hz1 : V0.heap.size < (V0.alloc (.cells #[.int .i64 0, .int .i64 1, .int .i64 s, .slice none 0 0, .string ⟨#[107]⟩, .string ⟨#[]⟩] 41)).heap.size := by simp
            generalize V0.alloc (.cells #[.int .i64 0, .int .i64 1, .int .i64 s, .slice none 0 0, .string ⟨#[107]⟩, .string ⟨#[]⟩] 41) = Vc1 at *
            replace H0 := hide (keepB H0.out hb1)
            replace HB := hide (HB.out.trans (hb1.mono HB.out.size))
            clear hb1
            refine ⟨_, rfl, ?_, ?_⟩
            · exact by obtain ⟨a, b, c, d, -⟩ := cells4T H0.out; exact ⟨a, b, c, d⟩
            refine HeadE.all (rs := [3, 8]) (by kernel_rfl) (by simp) ?_
            intro i hi
            rcases List.mem_cons.1 hi with rfl | hi
            · clear hi
              refine wpOp_val rfl rfl (v := .slice (some ⟨Vc1.heap.size, 0, none⟩) 1 1) (w' := Vc1.alloc (.cells #[.int .i64 0, .int .i64 1, .int .i64 s, .slice none 0 0, .string ⟨#[107]⟩, .string ⟨#[]⟩] 41)) (by go_simp) ?_
              have hb2 := box_below Vc1 (.cells #[.int .i64 0, .int .i64 1, .int .i64 s, .slice none 0 0, .string ⟨#[107]⟩, .string ⟨#[]⟩] 41)
              have X3 := hide (World.alloc_heap_new Vc1 (.cells #[.int .i64 0, .int .i64 1, .int .i64 s, .slice none 0 0, .string ⟨#[107]⟩, .string ⟨#[]⟩] 41))
              have hz2 : Vc1.heap.size < (Vc1.alloc (.cells #[.int .i64 0, .int .i64 1, .int .i64 s, .slice none 0 0, .string ⟨#[107]⟩, .string ⟨#[]⟩] 41)).heap.size := by simp
              generalize Vc1.alloc (.cells #[.int .i64 0, .int .i64 1, .int .i64 s, .slice none 0 0, .string ⟨#[107]⟩, .string ⟨#[]⟩] 41) = Vc2 at *
              replace H0 := hide (keepB H0.out hb2)
              replace HB := hide (HB.out.trans (hb2.mono HB.out.size))
              clear hb2
              refine ⟨by obtain ⟨a, b, c, d, -⟩ := cells4T H0.out; exact ⟨a, b, c, d⟩, ?_⟩
              refine HeadE.all (rs := [4, 8]) (by kernel_rfl) (by simp) ?_
              intro i hi
              rcases List.mem_cons.1 hi with rfl | hi
              · clear hi
                refine wpOp_call rfl rfl 17 #[.agg #[.int .i64 t.own, .int .i64 t.next, .slice sa t.seen.length sc, .slice la t.late.length lc], .slice (some ⟨Vc1.heap.size, 0, none⟩) 1 1] (by go_simp) (Had0.out Vc2 _ HB.out (dG_lit X3.out)) ?_
                rintro e Vc3 ⟨vt', vs', rfl, htok, hsls, hbA⟩
                obtain ⟨sa', sc', la', lc', rfl, -, -⟩ := htok.tok
                obtain ⟨qa', qc', rfl⟩ := hsls.sls.form
                replace htok := htok.mono (K' := fun k => Vc2.heap.size ≤ k ∧ k < Vc3.heap.size) fun k h1 h2 => ⟨h2, h1⟩
                replace hsls := slsS_mono hsls (K' := fun k => Vc2.heap.size ≤ k ∧ k < Vc3.heap.size) fun k h1 h2 => ⟨h2, h1⟩
                have hlo := HB.out.size
                have hzA := hbA.size
                replace H0 := hide (keepB H0.out hbA)
                replace X3 := hide (keepB X3.out hbA)
                replace HB := hide (HB.out.trans (hbA.mono HB.out.size))
                have Htok := hide htok
                have Hsls := hide hsls
                clear htok hsls hbA
                refine ⟨_, rfl, ?_, ?_⟩
                · exact by obtain ⟨a, b, c, d, -⟩ := cells4T H0.out; exact ⟨a, b, c, d⟩
                refine HeadE.take 5 (.tuple #[.agg #[.int .i64 tn.own, .int .i64 tn.next, .slice sa' tn.seen.length sc', .slice la' tn.late.length lc'], .slice qa' L.length qc']) rfl (by kernel_rfl) (.inl ⟨rfl, fun w2 _ => by go_simp⟩) (by obtain ⟨a, b, c, d, -⟩ := cells4T H0.out; exact ⟨a, b, c, d⟩) ?_
                refine HeadE.take 6 (.agg #[.int .i64 tn.own, .int .i64 tn.next, .slice sa' tn.seen.length sc', .slice la' tn.late.length lc']) rfl (by kernel_rfl) (.inl ⟨rfl, fun w2 _ => by go_simp⟩) (by obtain ⟨a, b, c, d, -⟩ := cells4T H0.out; exact ⟨a, b, c, d⟩) ?_
                refine HeadE.take 7 (.slice qa' L.length qc') rfl (by kernel_rfl) (.inl ⟨rfl, fun w2 _ => by go_simp⟩) (by obtain ⟨a, b, c, d, -⟩ := cells4T H0.out; exact ⟨a, b, c, d⟩) ?_
                refine HeadE.only 8 (by kernel_rfl) ?_
                refine wpOp_val rfl rfl (v := .pointer (some ⟨Vc3.heap.size, 0, none⟩)) (w' := Vc3.alloc (.cells #[.int .i64 0, .int .i64 0, .slice none 0 0, .slice none 0 0] 26)) (by go_simp) ?_
                have hb4 := box_below Vc3 (.cells #[.int .i64 0, .int .i64 0, .slice none 0 0, .slice none 0 0] 26)
                have X8 := hide (World.alloc_heap_new Vc3 (.cells #[.int .i64 0, .int .i64 0, .slice none 0 0, .slice none 0 0] 26))
                have hz4 : Vc3.heap.size < (Vc3.alloc (.cells #[.int .i64 0, .int .i64 0, .slice none 0 0, .slice none 0 0] 26)).heap.size := by simp
                generalize Vc3.alloc (.cells #[.int .i64 0, .int .i64 0, .slice none 0 0, .slice none 0 0] 26) = Vc4 at *
                replace H0 := hide (keepB H0.out hb4)
                replace X3 := hide (keepB X3.out hb4)
                replace HB := hide (HB.out.trans (hb4.mono HB.out.size))
                replace Htok := hide (Htok.out.new hb4)
                replace Hsls := hide (Hsls.out.new hb4)
                clear hb4
                refine ⟨by obtain ⟨a, b, c, d, -⟩ := cells4T H0.out; exact ⟨a, b, c, d⟩, ?_⟩
                refine HeadE.only 9 (by kernel_rfl) ?_
                have hub : Vc3.heap.size < Vc2.heap.size ∨ Vc3.heap.size ≤ Vc3.heap.size := by omega
                have hvu : V0.heap.size ≤ Vc3.heap.size := by omega
                have hva : V0.heap.size ≤ Vc2.heap.size := by omega
                have hne : tb ≠ Vc3.heap.size := by have := Htb.out; omega
                obtain ⟨x0, x1, x2, x3, f0, f1, f2, f3⟩ := cells4T X8.out
                refine wpOp_skip rfl rfl (w' := put4T Vc4 (Vc3.heap.size) (.int .i64 tn.own) (.int .i64 tn.next) (.slice sa' tn.seen.length sc') (.slice la' tn.late.length lc')) (by unfold put4T; go_simp) ?_
                have hst := put4T_heap X8.out (.int .i64 tn.own) (.int .i64 tn.next) (.slice sa' tn.seen.length sc') (.slice la' tn.late.length lc')
                have htk := (Htok.out.mono (K' := fun k => V0.heap.size ≤ k ∧ k ≠ Vc3.heap.size) fun k h1 h2 => ⟨by omega, by omega⟩).touch (put4T_touch (S := fun k => k = Vc3.heap.size) Vc4 rfl (.int .i64 tn.own) (.int .i64 tn.next) (.slice sa' tn.seen.length sc') (.slice la' tn.late.length lc')) fun k h => h.2
                have hsl := (slsS_mono Hsls.out (K' := fun k => V0.heap.size ≤ k ∧ k ≠ Vc3.heap.size) fun k h1 h2 => ⟨by omega, by omega⟩).touch (put4T_touch (S := fun k => k = Vc3.heap.size) Vc4 rfl (.int .i64 tn.own) (.int .i64 tn.next) (.slice sa' tn.seen.length sc') (.slice la' tn.late.length lc')) fun k h => h.2
                have hbl := put4T_below HB.out hvu (.int .i64 tn.own) (.int .i64 tn.next) (.slice sa' tn.seen.length sc') (.slice la' tn.late.length lc')
                have h0' := (put4T_other tb hne (.int .i64 tn.own) (.int .i64 tn.next) (.slice sa' tn.seen.length sc') (.slice la' tn.late.length lc')).trans H0.out
                clear x0 x1 x2 x3 f0 f1 f2 f3
                generalize put4T Vc4 (Vc3.heap.size) (.int .i64 tn.own) (.int .i64 tn.next) (.slice sa' tn.seen.length sc') (.slice la' tn.late.length lc') = VE at *
                replace H0 := hide h0'
                refine ⟨by obtain ⟨a, b, c, d, -⟩ := cells4T H0.out; exact ⟨a, b, c, d⟩, ?_⟩
                refine HeadE.fin (by kernel_rfl) ?_
                refine onlyA 10 (by kernel_rfl) ?_
                refine wpOp_val rfl rfl (v := .slice qa' L.length qc') (w' := VE) (by go_simp) ?_
                refine endA (by kernel_rfl) ?_
                go_simp
                go_step
                go_meet
                exact ⟨_, sa', sc', la', lc', qa', qc', rfl, rfl, Hz0.out ▸ hvu, hst, Hz0.out ▸ htk, Hz0.out ▸ hsl, hbd.trans (Hz0.out ▸ hbl)⟩
              · obtain rfl : i = 8 := by simpa using hi
                clear hi
                refine wpOp_val rfl rfl (v := .pointer (some ⟨Vc2.heap.size, 0, none⟩)) (w' := Vc2.alloc (.cells #[.int .i64 0, .int .i64 0, .slice none 0 0, .slice none 0 0] 26)) (by go_simp) ?_
                have hb5 := box_below Vc2 (.cells #[.int .i64 0, .int .i64 0, .slice none 0 0, .slice none 0 0] 26)
                have X8 := hide (World.alloc_heap_new Vc2 (.cells #[.int .i64 0, .int .i64 0, .slice none 0 0, .slice none 0 0] 26))
                have hz5 : Vc2.heap.size < (Vc2.alloc (.cells #[.int .i64 0, .int .i64 0, .slice none 0 0, .slice none 0 0] 26)).heap.size := by simp
                generalize Vc2.alloc (.cells #[.int .i64 0, .int .i64 0, .slice none 0 0, .slice none 0 0] 26) = Vc5 at *
                replace H0 := hide (keepB H0.out hb5)
                replace X3 := hide (keepB X3.out hb5)
                replace HB := hide (HB.out.trans (hb5.mono HB.out.size))
                clear hb5
                refine ⟨by obtain ⟨a, b, c, d, -⟩ := cells4T H0.out; exact ⟨a, b, c, d⟩, ?_⟩
                refine HeadE.only 4 (by kernel_rfl) ?_
                refine wpOp_call rfl rfl 17 #[.agg #[.int .i64 t.own, .int .i64 t.next, .slice sa t.seen.length sc, .slice la t.late.length lc], .slice (some ⟨Vc1.heap.size, 0, none⟩) 1 1] (by go_simp) (Had0.out Vc5 _ HB.out (dG_lit X3.out)) ?_
                rintro e Vc6 ⟨vt', vs', rfl, htok, hsls, hbA⟩
                obtain ⟨sa', sc', la', lc', rfl, -, -⟩ := htok.tok
                obtain ⟨qa', qc', rfl⟩ := hsls.sls.form
                replace htok := htok.mono (K' := fun k => Vc5.heap.size ≤ k ∧ k < Vc6.heap.size) fun k h1 h2 => ⟨h2, h1⟩
                replace hsls := slsS_mono hsls (K' := fun k => Vc5.heap.size ≤ k ∧ k < Vc6.heap.size) fun k h1 h2 => ⟨h2, h1⟩
                have hlo := HB.out.size
                have hzA := hbA.size
                replace H0 := hide (keepB H0.out hbA)
                replace X3 := hide (keepB X3.out hbA)
                replace X8 := hide (keepB X8.out hbA)
                replace HB := hide (HB.out.trans (hbA.mono HB.out.size))
                have Htok := hide htok
                have Hsls := hide hsls
                clear htok hsls hbA
                refine ⟨_, rfl, ?_, ?_⟩
                · exact by obtain ⟨a, b, c, d, -⟩ := cells4T H0.out; exact ⟨a, b, c, d⟩
                refine HeadE.take 5 (.tuple #[.agg #[.int .i64 tn.own, .int .i64 tn.next, .slice sa' tn.seen.length sc', .slice la' tn.late.length lc'], .slice qa' L.length qc']) rfl (by kernel_rfl) (.inl ⟨rfl, fun w2 _ => by go_simp⟩) (by obtain ⟨a, b, c, d, -⟩ := cells4T H0.out; exact ⟨a, b, c, d⟩) ?_
                refine HeadE.take 6 (.agg #[.int .i64 tn.own, .int .i64 tn.next, .slice sa' tn.seen.length sc', .slice la' tn.late.length lc']) rfl (by kernel_rfl) (.inl ⟨rfl, fun w2 _ => by go_simp⟩) (by obtain ⟨a, b, c, d, -⟩ := cells4T H0.out; exact ⟨a, b, c, d⟩) ?_
                refine HeadE.take 7 (.slice qa' L.length qc') rfl (by kernel_rfl) (.inl ⟨rfl, fun w2 _ => by go_simp⟩) (by obtain ⟨a, b, c, d, -⟩ := cells4T H0.out; exact ⟨a, b, c, d⟩) ?_
                refine HeadE.only 9 (by kernel_rfl) ?_
                have hub : Vc2.heap.size < Vc5.heap.size ∨ Vc6.heap.size ≤ Vc2.heap.size := by omega
                have hvu : V0.heap.size ≤ Vc2.heap.size := by omega
                have hva : V0.heap.size ≤ Vc5.heap.size := by omega
                have hne : tb ≠ Vc2.heap.size := by have := Htb.out; omega
                obtain ⟨x0, x1, x2, x3, f0, f1, f2, f3⟩ := cells4T X8.out
                refine wpOp_skip rfl rfl (w' := put4T Vc6 (Vc2.heap.size) (.int .i64 tn.own) (.int .i64 tn.next) (.slice sa' tn.seen.length sc') (.slice la' tn.late.length lc')) (by unfold put4T; go_simp) ?_
                have hst := put4T_heap X8.out (.int .i64 tn.own) (.int .i64 tn.next) (.slice sa' tn.seen.length sc') (.slice la' tn.late.length lc')
                have htk := (Htok.out.mono (K' := fun k => V0.heap.size ≤ k ∧ k ≠ Vc2.heap.size) fun k h1 h2 => ⟨by omega, by omega⟩).touch (put4T_touch (S := fun k => k = Vc2.heap.size) Vc6 rfl (.int .i64 tn.own) (.int .i64 tn.next) (.slice sa' tn.seen.length sc') (.slice la' tn.late.length lc')) fun k h => h.2
                have hsl := (slsS_mono Hsls.out (K' := fun k => V0.heap.size ≤ k ∧ k ≠ Vc2.heap.size) fun k h1 h2 => ⟨by omega, by omega⟩).touch (put4T_touch (S := fun k => k = Vc2.heap.size) Vc6 rfl (.int .i64 tn.own) (.int .i64 tn.next) (.slice sa' tn.seen.length sc') (.slice la' tn.late.length lc')) fun k h => h.2
                have hbl := put4T_below HB.out hvu (.int .i64 tn.own) (.int .i64 tn.next) (.slice sa' tn.seen.length sc') (.slice la' tn.late.length lc')
                have h0' := (put4T_other tb hne (.int .i64 tn.own) (.int .i64 tn.next) (.slice sa' tn.seen.length sc') (.slice la' tn.late.length lc')).trans H0.out
                clear x0 x1 x2 x3 f0 f1 f2 f3
                generalize put4T Vc6 (Vc2.heap.size) (.int .i64 tn.own) (.int .i64 tn.next) (.slice sa' tn.seen.length sc') (.slice la' tn.late.length lc') = VE at *
                replace H0 := hide h0'
                refine ⟨by obtain ⟨a, b, c, d, -⟩ := cells4T H0.out; exact ⟨a, b, c, d⟩, ?_⟩
                refine HeadE.fin (by kernel_rfl) ?_
                refine onlyA 10 (by kernel_rfl) ?_
                refine wpOp_val rfl rfl (v := .slice qa' L.length qc') (w' := VE) (by go_simp) ?_
                refine endA (by kernel_rfl) ?_
                go_simp
                go_step
                go_meet
                exact ⟨_, sa', sc', la', lc', qa', qc', rfl, rfl, Hz0.out ▸ hvu, hst, Hz0.out ▸ htk, Hz0.out ▸ hsl, hbd.trans (Hz0.out ▸ hbl)⟩
            · obtain rfl : i = 8 := by simpa using hi
              clear hi
              refine wpOp_val rfl rfl (v := .pointer (some ⟨Vc1.heap.size, 0, none⟩)) (w' := Vc1.alloc (.cells #[.int .i64 0, .int .i64 0, .slice none 0 0, .slice none 0 0] 26)) (by go_simp) ?_
              have hb7 := box_below Vc1 (.cells #[.int .i64 0, .int .i64 0, .slice none 0 0, .slice none 0 0] 26)
              have X8 := hide (World.alloc_heap_new Vc1 (.cells #[.int .i64 0, .int .i64 0, .slice none 0 0, .slice none 0 0] 26))
              have hz7 : Vc1.heap.size < (Vc1.alloc (.cells #[.int .i64 0, .int .i64 0, .slice none 0 0, .slice none 0 0] 26)).heap.size := by simp
              generalize Vc1.alloc (.cells #[.int .i64 0, .int .i64 0, .slice none 0 0, .slice none 0 0] 26) = Vc7 at *
              replace H0 := hide (keepB H0.out hb7)
              replace HB := hide (HB.out.trans (hb7.mono HB.out.size))
              clear hb7
              refine ⟨by obtain ⟨a, b, c, d, -⟩ := cells4T H0.out; exact ⟨a, b, c, d⟩, ?_⟩
              refine HeadE.only 3 (by kernel_rfl) ?_
              refine wpOp_val rfl rfl (v := .slice (some ⟨Vc7.heap.size, 0, none⟩) 1 1) (w' := Vc7.alloc (.cells #[.int .i64 0, .int .i64 1, .int .i64 s, .slice none 0 0, .string ⟨#[107]⟩, .string ⟨#[]⟩] 41)) (by go_simp) ?_
              have hb8 := box_below Vc7 (.cells #[.int .i64 0, .int .i64 1, .int .i64 s, .slice none 0 0, .string ⟨#[107]⟩, .string ⟨#[]⟩] 41)
              have X3 := hide (World.alloc_heap_new Vc7 (.cells #[.int .i64 0, .int .i64 1, .int .i64 s, .slice none 0 0, .string ⟨#[107]⟩, .string ⟨#[]⟩] 41))
              have hz8 : Vc7.heap.size < (Vc7.alloc (.cells #[.int .i64 0, .int .i64 1, .int .i64 s, .slice none 0 0, .string ⟨#[107]⟩, .string ⟨#[]⟩] 41)).heap.size := by simp
              generalize Vc7.alloc (.cells #[.int .i64 0, .int .i64 1, .int .i64 s, .slice none 0 0, .string ⟨#[107]⟩, .string ⟨#[]⟩] 41) = Vc8 at *
              replace H0 := hide (keepB H0.out hb8)
              replace X8 := hide (keepB X8.out hb8)
              replace HB := hide (HB.out.trans (hb8.mono HB.out.size))
              clear hb8
              refine ⟨by obtain ⟨a, b, c, d, -⟩ := cells4T H0.out; exact ⟨a, b, c, d⟩, ?_⟩
              refine HeadE.only 4 (by kernel_rfl) ?_
              refine wpOp_call rfl rfl 17 #[.agg #[.int .i64 t.own, .int .i64 t.next, .slice sa t.seen.length sc, .slice la t.late.length lc], .slice (some ⟨Vc7.heap.size, 0, none⟩) 1 1] (by go_simp) (Had0.out Vc8 _ HB.out (dG_lit X3.out)) ?_
              rintro e Vc9 ⟨vt', vs', rfl, htok, hsls, hbA⟩
              obtain ⟨sa', sc', la', lc', rfl, -, -⟩ := htok.tok
              obtain ⟨qa', qc', rfl⟩ := hsls.sls.form
              replace htok := htok.mono (K' := fun k => Vc8.heap.size ≤ k ∧ k < Vc9.heap.size) fun k h1 h2 => ⟨h2, h1⟩
              replace hsls := slsS_mono hsls (K' := fun k => Vc8.heap.size ≤ k ∧ k < Vc9.heap.size) fun k h1 h2 => ⟨h2, h1⟩
              have hlo := HB.out.size
              have hzA := hbA.size
              replace H0 := hide (keepB H0.out hbA)
              replace X8 := hide (keepB X8.out hbA)
              replace X3 := hide (keepB X3.out hbA)
              replace HB := hide (HB.out.trans (hbA.mono HB.out.size))
              have Htok := hide htok
              have Hsls := hide hsls
              clear htok hsls hbA
              refine ⟨_, rfl, ?_, ?_⟩
              · exact by obtain ⟨a, b, c, d, -⟩ := cells4T H0.out; exact ⟨a, b, c, d⟩
              refine HeadE.take 5 (.tuple #[.agg #[.int .i64 tn.own, .int .i64 tn.next, .slice sa' tn.seen.length sc', .slice la' tn.late.length lc'], .slice qa' L.length qc']) rfl (by kernel_rfl) (.inl ⟨rfl, fun w2 _ => by go_simp⟩) (by obtain ⟨a, b, c, d, -⟩ := cells4T H0.out; exact ⟨a, b, c, d⟩) ?_
              refine HeadE.take 6 (.agg #[.int .i64 tn.own, .int .i64 tn.next, .slice sa' tn.seen.length sc', .slice la' tn.late.length lc']) rfl (by kernel_rfl) (.inl ⟨rfl, fun w2 _ => by go_simp⟩) (by obtain ⟨a, b, c, d, -⟩ := cells4T H0.out; exact ⟨a, b, c, d⟩) ?_
              refine HeadE.take 7 (.slice qa' L.length qc') rfl (by kernel_rfl) (.inl ⟨rfl, fun w2 _ => by go_simp⟩) (by obtain ⟨a, b, c, d, -⟩ := cells4T H0.out; exact ⟨a, b, c, d⟩) ?_
              refine HeadE.only 9 (by kernel_rfl) ?_
              have hub : Vc1.heap.size < Vc8.heap.size ∨ Vc9.heap.size ≤ Vc1.heap.size := by omega
              have hvu : V0.heap.size ≤ Vc1.heap.size := by omega
              have hva : V0.heap.size ≤ Vc8.heap.size := by omega
              have hne : tb ≠ Vc1.heap.size := by have := Htb.out; omega
              obtain ⟨x0, x1, x2, x3, f0, f1, f2, f3⟩ := cells4T X8.out
              refine wpOp_skip rfl rfl (w' := put4T Vc9 (Vc1.heap.size) (.int .i64 tn.own) (.int .i64 tn.next) (.slice sa' tn.seen.length sc') (.slice la' tn.late.length lc')) (by unfold put4T; go_simp) ?_
              have hst := put4T_heap X8.out (.int .i64 tn.own) (.int .i64 tn.next) (.slice sa' tn.seen.length sc') (.slice la' tn.late.length lc')
              have htk := (Htok.out.mono (K' := fun k => V0.heap.size ≤ k ∧ k ≠ Vc1.heap.size) fun k h1 h2 => ⟨by omega, by omega⟩).touch (put4T_touch (S := fun k => k = Vc1.heap.size) Vc9 rfl (.int .i64 tn.own) (.int .i64 tn.next) (.slice sa' tn.seen.length sc') (.slice la' tn.late.length lc')) fun k h => h.2
              have hsl := (slsS_mono Hsls.out (K' := fun k => V0.heap.size ≤ k ∧ k ≠ Vc1.heap.size) fun k h1 h2 => ⟨by omega, by omega⟩).touch (put4T_touch (S := fun k => k = Vc1.heap.size) Vc9 rfl (.int .i64 tn.own) (.int .i64 tn.next) (.slice sa' tn.seen.length sc') (.slice la' tn.late.length lc')) fun k h => h.2
              have hbl := put4T_below HB.out hvu (.int .i64 tn.own) (.int .i64 tn.next) (.slice sa' tn.seen.length sc') (.slice la' tn.late.length lc')
              have h0' := (put4T_other tb hne (.int .i64 tn.own) (.int .i64 tn.next) (.slice sa' tn.seen.length sc') (.slice la' tn.late.length lc')).trans H0.out
              clear x0 x1 x2 x3 f0 f1 f2 f3
              generalize put4T Vc9 (Vc1.heap.size) (.int .i64 tn.own) (.int .i64 tn.next) (.slice sa' tn.seen.length sc') (.slice la' tn.late.length lc') = VE at *
              replace H0 := hide h0'
              refine ⟨by obtain ⟨a, b, c, d, -⟩ := cells4T H0.out; exact ⟨a, b, c, d⟩, ?_⟩
              refine HeadE.fin (by kernel_rfl) ?_
              refine onlyA 10 (by kernel_rfl) ?_
              refine wpOp_val rfl rfl (v := .slice qa' L.length qc') (w' := VE) (by go_simp) ?_
              refine endA (by kernel_rfl) ?_
              go_simp
              go_step
              go_meet
              exact ⟨_, sa', sc', la', lc', qa', qc', rfl, rfl, Hz0.out ▸ hvu, hst, Hz0.out ▸ htk, Hz0.out ▸ hsl, hbd.trans (Hz0.out ▸ hbl)⟩
          · obtain rfl : i = 8 := by simpa using hi
            clear hi
            refine wpOp_val rfl rfl (v := .pointer (some ⟨V0.heap.size, 0, none⟩)) (w' := V0.alloc (.cells #[.int .i64 0, .int .i64 0, .slice none 0 0, .slice none 0 0] 26)) (by go_simp) ?_
            have hb10 := box_below V0 (.cells #[.int .i64 0, .int .i64 0, .slice none 0 0, .slice none 0 0] 26)
            have X8 := hide (World.alloc_heap_new V0 (.cells #[.int .i64 0, .int .i64 0, .slice none 0 0, .slice none 0 0] 26))
            have hz10 : V0.heap.size < (V0.alloc (.cells #[.int .i64 0, .int .i64 0, .slice none 0 0, .slice none 0 0] 26)).heap.size := by simp
            generalize V0.alloc (.cells #[.int .i64 0, .int .i64 0, .slice none 0 0, .slice none 0 0] 26) = Vc10 at *
            replace H0 := hide (keepB H0.out hb10)
            replace HB := hide (HB.out.trans (hb10.mono HB.out.size))
            clear hb10
            refine ⟨by obtain ⟨a, b, c, d, -⟩ := cells4T H0.out; exact ⟨a, b, c, d⟩, ?_⟩
            refine HeadE.only 2 (by kernel_rfl) ?_
            refine wpOp_call rfl rfl 26 #[.int .i64 1, .int .i64 s, .slice none 0 0] (by go_simp) (CD.out Vc10) ?_
            rintro e w1 ⟨rfl, rfl⟩
            have hb11 := box_below Vc10 (.cells #[.int .i64 0, .int .i64 1, .int .i64 s, .slice none 0 0, .string ⟨#[107]⟩, .string ⟨#[]⟩] 41)
            have hz11 : Vc10.heap.size < (Vc10.alloc (.cells #[.int .i64 0, .int .i64 1, .int .i64 s, .slice none 0 0, .string ⟨#[107]⟩, .string ⟨#[]⟩] 41)).heap.size := by simp
            generalize Vc10.alloc (.cells #[.int .i64 0, .int .i64 1, .int .i64 s, .slice none 0 0, .string ⟨#[107]⟩, .string ⟨#[]⟩] 41) = Vc11 at *
            replace H0 := hide (keepB H0.out hb11)
            replace X8 := hide (keepB X8.out hb11)
            replace HB := hide (HB.out.trans (hb11.mono HB.out.size))
            clear hb11
            refine ⟨_, rfl, ?_, ?_⟩
            · exact by obtain ⟨a, b, c, d, -⟩ := cells4T H0.out; exact ⟨a, b, c, d⟩
            refine HeadE.only 3 (by kernel_rfl) ?_
            refine wpOp_val rfl rfl (v := .slice (some ⟨Vc11.heap.size, 0, none⟩) 1 1) (w' := Vc11.alloc (.cells #[.int .i64 0, .int .i64 1, .int .i64 s, .slice none 0 0, .string ⟨#[107]⟩, .string ⟨#[]⟩] 41)) (by go_simp) ?_
            have hb12 := box_below Vc11 (.cells #[.int .i64 0, .int .i64 1, .int .i64 s, .slice none 0 0, .string ⟨#[107]⟩, .string ⟨#[]⟩] 41)
            have X3 := hide (World.alloc_heap_new Vc11 (.cells #[.int .i64 0, .int .i64 1, .int .i64 s, .slice none 0 0, .string ⟨#[107]⟩, .string ⟨#[]⟩] 41))
            have hz12 : Vc11.heap.size < (Vc11.alloc (.cells #[.int .i64 0, .int .i64 1, .int .i64 s, .slice none 0 0, .string ⟨#[107]⟩, .string ⟨#[]⟩] 41)).heap.size := by simp
            generalize Vc11.alloc (.cells #[.int .i64 0, .int .i64 1, .int .i64 s, .slice none 0 0, .string ⟨#[107]⟩, .string ⟨#[]⟩] 41) = Vc12 at *
            replace H0 := hide (keepB H0.out hb12)
            replace X8 := hide (keepB X8.out hb12)
            replace HB := hide (HB.out.trans (hb12.mono HB.out.size))
            clear hb12
            refine ⟨by obtain ⟨a, b, c, d, -⟩ := cells4T H0.out; exact ⟨a, b, c, d⟩, ?_⟩
            refine HeadE.only 4 (by kernel_rfl) ?_
            refine wpOp_call rfl rfl 17 #[.agg #[.int .i64 t.own, .int .i64 t.next, .slice sa t.seen.length sc, .slice la t.late.length lc], .slice (some ⟨Vc11.heap.size, 0, none⟩) 1 1] (by go_simp) (Had0.out Vc12 _ HB.out (dG_lit X3.out)) ?_
            rintro e Vc13 ⟨vt', vs', rfl, htok, hsls, hbA⟩
            obtain ⟨sa', sc', la', lc', rfl, -, -⟩ := htok.tok
            obtain ⟨qa', qc', rfl⟩ := hsls.sls.form
            replace htok := htok.mono (K' := fun k => Vc12.heap.size ≤ k ∧ k < Vc13.heap.size) fun k h1 h2 => ⟨h2, h1⟩
            replace hsls := slsS_mono hsls (K' := fun k => Vc12.heap.size ≤ k ∧ k < Vc13.heap.size) fun k h1 h2 => ⟨h2, h1⟩
            have hlo := HB.out.size
            have hzA := hbA.size
            replace H0 := hide (keepB H0.out hbA)
            replace X8 := hide (keepB X8.out hbA)
            replace X3 := hide (keepB X3.out hbA)
            replace HB := hide (HB.out.trans (hbA.mono HB.out.size))
            have Htok := hide htok
            have Hsls := hide hsls
            clear htok hsls hbA
            refine ⟨_, rfl, ?_, ?_⟩
            · exact by obtain ⟨a, b, c, d, -⟩ := cells4T H0.out; exact ⟨a, b, c, d⟩
            refine HeadE.take 5 (.tuple #[.agg #[.int .i64 tn.own, .int .i64 tn.next, .slice sa' tn.seen.length sc', .slice la' tn.late.length lc'], .slice qa' L.length qc']) rfl (by kernel_rfl) (.inl ⟨rfl, fun w2 _ => by go_simp⟩) (by obtain ⟨a, b, c, d, -⟩ := cells4T H0.out; exact ⟨a, b, c, d⟩) ?_
            refine HeadE.take 6 (.agg #[.int .i64 tn.own, .int .i64 tn.next, .slice sa' tn.seen.length sc', .slice la' tn.late.length lc']) rfl (by kernel_rfl) (.inl ⟨rfl, fun w2 _ => by go_simp⟩) (by obtain ⟨a, b, c, d, -⟩ := cells4T H0.out; exact ⟨a, b, c, d⟩) ?_
            refine HeadE.take 7 (.slice qa' L.length qc') rfl (by kernel_rfl) (.inl ⟨rfl, fun w2 _ => by go_simp⟩) (by obtain ⟨a, b, c, d, -⟩ := cells4T H0.out; exact ⟨a, b, c, d⟩) ?_
            refine HeadE.only 9 (by kernel_rfl) ?_
            have hub : V0.heap.size < Vc12.heap.size ∨ Vc13.heap.size ≤ V0.heap.size := by omega
            have hvu : V0.heap.size ≤ V0.heap.size := Nat.le_refl _
            have hva : V0.heap.size ≤ Vc12.heap.size := by omega
            have hne : tb ≠ V0.heap.size := by have := Htb.out; omega
            obtain ⟨x0, x1, x2, x3, f0, f1, f2, f3⟩ := cells4T X8.out
            refine wpOp_skip rfl rfl (w' := put4T Vc13 (V0.heap.size) (.int .i64 tn.own) (.int .i64 tn.next) (.slice sa' tn.seen.length sc') (.slice la' tn.late.length lc')) (by unfold put4T; go_simp) ?_
            have hst := put4T_heap X8.out (.int .i64 tn.own) (.int .i64 tn.next) (.slice sa' tn.seen.length sc') (.slice la' tn.late.length lc')
            have htk := (Htok.out.mono (K' := fun k => V0.heap.size ≤ k ∧ k ≠ V0.heap.size) fun k h1 h2 => ⟨by omega, by omega⟩).touch (put4T_touch (S := fun k => k = V0.heap.size) Vc13 rfl (.int .i64 tn.own) (.int .i64 tn.next) (.slice sa' tn.seen.length sc') (.slice la' tn.late.length lc')) fun k h => h.2
            have hsl := (slsS_mono Hsls.out (K' := fun k => V0.heap.size ≤ k ∧ k ≠ V0.heap.size) fun k h1 h2 => ⟨by omega, by omega⟩).touch (put4T_touch (S := fun k => k = V0.heap.size) Vc13 rfl (.int .i64 tn.own) (.int .i64 tn.next) (.slice sa' tn.seen.length sc') (.slice la' tn.late.length lc')) fun k h => h.2
            have hbl := put4T_below HB.out hvu (.int .i64 tn.own) (.int .i64 tn.next) (.slice sa' tn.seen.length sc') (.slice la' tn.late.length lc')
            have h0' := (put4T_other tb hne (.int .i64 tn.own) (.int .i64 tn.next) (.slice sa' tn.seen.length sc') (.slice la' tn.late.length lc')).trans H0.out
            clear x0 x1 x2 x3 f0 f1 f2 f3
            generalize put4T Vc13 (V0.heap.size) (.int .i64 tn.own) (.int .i64 tn.next) (.slice sa' tn.seen.length sc') (.slice la' tn.late.length lc') = VE at *
            replace H0 := hide h0'
            refine ⟨by obtain ⟨a, b, c, d, -⟩ := cells4T H0.out; exact ⟨a, b, c, d⟩, ?_⟩
            refine HeadE.fin (by kernel_rfl) ?_
            refine onlyA 10 (by kernel_rfl) ?_
            refine wpOp_val rfl rfl (v := .slice qa' L.length qc') (w' := VE) (by go_simp) ?_
            refine endA (by kernel_rfl) ?_
            go_simp
            go_step
            go_meet
            exact ⟨_, sa', sc', la', lc', qa', qc', rfl, rfl, Hz0.out ▸ hvu, hst, Hz0.out ▸ htk, Hz0.out ▸ hsl, hbd.trans (Hz0.out ▸ hbl)⟩
        case rest =>
          clear Had
          obtain ⟨ub, sa', sc', la', lc', qa', qc', rfl, rfl, hzu, hub, htk, hsl, hbc⟩ := hcut
          have hbw := HBw.out.trans (hbc.mono (by have := HBw.out.size; omega))
          have h0c := keepB H0.out (hz ▸ hbc)
          have H0c := hide h0c
          have Hub := hide hub
          have Htk := hide htk
          have Hsl := hide hsl
          have Hbw := hide hbw
          have Hne : Hid (tb < ub) := hide (by omega)
          clear h0c hub htk hsl hbw hbc
          go_wp2_with fail
          go_loopw [7, 12] (fun nx2 j wx => ∃ j' : Nat, j' ≤ L.length ∧ nx2 = .int .i64 (nx + (j' : Int)) ∧ j = .int .i64 (j' : Int) ∧ wx = wc) (fun _ j _ => L.length - (intOf j).toNat)
          case atStart => exact ⟨0, Nat.zero_le _, by simp, rfl, rfl⟩
          case round =>
            obtain ⟨j', hj, rfl, rfl, hwx⟩ := hrel
            rw [hwx]
            by_cases h3 : j' < L.length
            · have hjL : (j' : Int) < (L.length : Int) := by omega
              obtain ⟨a1, c1, he, hat⟩ := Hsl.out.sls
              simp only [Value.slice.injEq, true_and] at he
              obtain ⟨rfl, rfl⟩ := he
              obtain ⟨b, o, rfl, p0, ⟨-, -, -, -, p1, -⟩⟩ := hat j' h3
              obtain ⟨e0, e1⟩ := Hnum.out j' h3
              rw [e0] at p0
              rw [e1] at p1
              replace p1 : wc.cell? ⟨b, o + j' * 7 + 1 + 1 + 1, none⟩ = some (.int .i64 (nx + (j' : Int))) := p1
              go_wp2_with fail
              exact ⟨⟨j' + 1, by omega, by first | trivial | go_num, by first | trivial | go_num, by first | trivial | rfl⟩, by simp [intOf]; omega⟩
            · obtain rfl : j' = L.length := by omega
              obtain ⟨x0, x1, x2, x3, -⟩ := cells4T Hub.out
              obtain ⟨y0, y1, y2, y3, f0, f1, f2, f3⟩ := cells4T H0c.out
              have hne1 := Hne.out
              have hne2 : tb ≠ ub := by omega
              have hne3 : ub ≠ tb := by omega
              go_wp2_with fail
              have hT : TokAt (put4T wc tb (.int .i64 tn.own) (.int .i64 tn.next) (.slice sa' tn.seen.length sc') (.slice la' tn.late.length lc')) tb tn := ⟨_, _, put4T_heap H0c.out _ _ _ _, (Htk.out.touch (put4T_touch (S := fun k => k = tb) wc rfl _ _ _ _) fun k h => by omega).mono fun k _ h => by omega⟩
              refine ⟨⟨i' + 1, nx + (L.length : Int), s :: G, tn, N + 1, by omega, by omega, Hwf2.out.mono (by simp) (by simp; omega), Hch2.out, fun s' q1 q2 => ?_, rfl, by go_num, hT, put4T_below Hbw.out (by omega) _ _ _ _⟩, by simp [intOf]; omega⟩
              by_cases e : s' ≤ (i' : Int) - (os.length : Int)
              · exact List.mem_cons_of_mem _ (Hall.out s' q1 e)
              · have := hse (by omega)
                exact (show s' = s by omega) ▸ List.mem_cons_self
    · obtain ⟨hn1, hl1⟩ := chainT_end Hch.out fun s h1 h2 => Hall.out s h1 (by omega)
      have hn2 : nx - 1 = 1 + (k : Int) := by omega
      obtain rfl : nx = 1 + (k : Int) + 1 := hn1
      have hl0 : t.late.length = 0 := by rw [hl1]; rfl
      have hnx2 := Hch.out.next
      obtain ⟨x0, x1, x2, x3, -⟩ := cells4T H0.out
      rw [hl0] at x3
      rw [hnx2, hn2] at x1
      have hseen := Hch.out.seen
      obtain ⟨_, _, _, _, he, hnums, -⟩ := HS.out.tok
      simp only [Value.agg.injEq, Array.mk.injEq, List.cons.injEq, and_true, true_and, Value.slice.injEq] at he
      obtain ⟨⟨rfl, rfl⟩, -⟩ := he
      have hbx := box_below wr (.cells #[.int .i64 0, .int .i64 (1 + (k : Int))] 3)
      have hnl := nums_lit (l := [0, 1 + (k : Int)]) (World.alloc_heap_new wr (.cells #[.int .i64 0, .int .i64 (1 + (k : Int))] 3)) rfl
      have hsv : everyB eqB t.seen [0, 1 + (k : Int)] = true := by
        rw [same_iff]
        intro i
        have hsi := hseen i
        rw [geti_nat] at hsi
        rw [hsi]
        match i with
        | 0 => rfl
        | 1 => simp
        | i + 2 => simp; omega
      have HSV := hide (refSame_calls _ _ t.seen [0, 1 + (k : Int)] _ (hnums.below hbx) hnl (by have := Hwf.out.seen.len; omega) (by simp))
      rw [hsv] at HSV
      have Hbe := hide (HBw.out.trans (hbx.mono HBw.out.size))
      clear hbx hnl hsv hseen hnums
      go_upto_region 22 with fail
      go_wp2_with fail
      refine HSV.out.mono ?_
      rintro e w2 ⟨rfl, rfl⟩
      go_wp2_with fail
      go_ret
      exact ⟨rfl, Hbe.out⟩

end Go.Proofs.Ytdkpbfigjdmfpaa
