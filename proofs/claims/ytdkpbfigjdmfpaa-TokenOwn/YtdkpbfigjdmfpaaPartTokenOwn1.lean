/- Own work: the parts TK13 of the proof, laid together. -/
import Derived.Test.YtdkpbfigjdmfpaaPartTokenChain12
/- The law TokenOwn of layer 9 (written by tools/own9.py). Own work; no statement. -/
set_option linter.unusedSimpArgs false
set_option linter.unusedVariables false
namespace Go.Proofs.Ytdkpbfigjdmfpaa
open Go.RowKit Go.Shelf Go.Sort

/-- The value reads as that row of bools. -/
def IsBools (w : World) (v : Value) (l : List Bool) : Prop :=
  ∃ a cap, v = .slice a l.length cap ∧ l.length ≤ cap ∧ ∀ t (h : t < l.length), ∃ b o, a = some ⟨b, o, none⟩ ∧ w.cell? ⟨b, o + t, none⟩ = some (.bool l[t])

/-- What the law has under way: the token in its block, its seen numbers in theirs, the row of drafts. -/
structure OwnS (w : World) (B tb sb : Nat) (wr : World) (v : Value) (ol : List Dv) : Prop where
  below : RowKit.Below w.heap.size w wr
  low : w.heap.size ≤ sb ∧ sb < tb ∧ tb < B
  size : B ≤ wr.heap.size
  tok : wr.heap[tb]? = some (.cells #[.int .i64 2, .int .i64 7, .slice (some ⟨sb, 0, none⟩) 3 3, .slice none 0 0] 26 (0, 0))
  seen : wr.heap[sb]? = some (.cells #[.int .i64 0, .int .i64 0, .int .i64 4] 3 (0, 0))
  row : wr.ownsRow B 41 6 v ol.length (ol.flatMap Dv.cells)
  deps : ∀ q ∈ ol, wr.ownsRow B 3 1 q.vd q.d.r.dep.length (q.d.r.dep.map (Value.int .i64))
section
variable {w wr w' w2 : World} {B tb sb : Nat} {v v1 : Value} {ol : List Dv} {q : Dv} {o : Obj}
theorem OwnS.new (h : OwnS w B tb sb wr v ol) (hb : RowKit.Below wr.heap.size wr w') : OwnS w B tb sb w' v ol :=
  ⟨h.below.trans (hb.mono h.below.size), h.low, Nat.le_trans h.size hb.size, keepB h.tok hb, keepB h.seen hb, own_below h.row hb, fun q hq => own_below (h.deps q hq) hb⟩
theorem OwnS.add (h : OwnS w B tb sb wr v ol) (hd : wr.ownsRow B 3 1 q.vd q.d.r.dep.length (q.d.r.dep.map (Value.int .i64)))
    (hown : w2.ownsRow B 41 6 v1 (ol.length + 1) (ol.flatMap Dv.cells ++ q.cells)) (hgrow : (wr.alloc o).grownBy w2 v.ownBlock) : OwnS w B tb sb w2 v1 (ol ++ [q]) := by
  have hz := h.size
  have hl := h.low
  have hks : ∀ k, k < wr.heap.size → v.ownBlock ≠ some k → w2.heap[k]? = wr.heap[k]? := fun k hk hn => (hgrow.block k (by simp; omega) (fun e => hn e.symm)).trans (Below.heap_alloc _ _ _ hk)
  refine ⟨(h.below.alloc (by omega) o).grown hgrow (by simp; omega) (fun j hj => by have := (h.row.lt j hj).1; omega), hl, by have := hgrow.size; simp at this; omega, ?_, ?_, by rw [List.length_append, List.flatMap_append]; simpa using hown, fun x hx => ?_⟩
  · exact (hks _ (by omega) (fun e => by have := (h.row.lt _ e).1; omega)).trans h.tok
  · exact (hks _ (by omega) (fun e => by have := (h.row.lt _ e).1; omega)).trans h.seen
  · have keep : ∀ {v n xs}, wr.ownsRow B 3 1 v n xs → w2.ownsRow B 3 1 v n xs := fun hr =>
      ownsRow_of_heap hr fun k hk => hks k (hr.lt k hk).2 (rows_apart (by decide) hr h.row k hk)
    rcases List.mem_append.1 hx with hx | hx
    · exact keep (h.deps x hx)
    · rw [List.mem_singleton.1 hx]
      exact keep hd
theorem OwnS.isTok (h : OwnS w B tb sb wr v ol) : IsTok wr (.agg #[.int .i64 2, .int .i64 7, .slice (some ⟨sb, 0, none⟩) 3 3, .slice none 0 0]) tO :=
  ⟨_, _, none, 0, rfl, nums_lit (l := [0, 0, 4]) h.seen rfl, IsDrs.nil _⟩
theorem OwnS.drs (h : OwnS w B tb sb wr v ol) : IsDrs wr v (ol.map (·.d)) := drs_of_row h.row fun q hq => IsNums.of_row (h.deps q hq)
end
theorem tO_wf : TokWf tO 0 7 := ⟨⟨by simp [tO], fun j => by rw [tO_seen]; split <;> decide⟩, fun d h => (by cases h), Nat.le_refl _, by decide⟩
theorem dO_ok (i : Int) (b : Bool) : DrOk (dO i b) := ⟨by simp [dO], by simp [dO], by cases b <;> simp [dO]⟩
theorem count_split : ∀ l : List Bool, l.countP (fun b => !b) + l.countP (fun b => b) = l.length
  | [] => rfl
  | b :: l => by
    have := count_split l
    cases b <;> simp <;> omega
theorem getElem_of_getElem? {α : Type} {l : List α} {k : Nat} {x : α} (h : l[k]? = some x) : ∃ hk : k < l.length, l[k] = x := by
  obtain ⟨hk, e⟩ := List.getElem?_eq_some_iff.1 h
  exact ⟨hk, e⟩
/-- The slot of the j-th, where it does not wait. -/
theorem own_at (bs : List Bool) (j : Nat) (h : j < bs.length) (hb : bs[j] = false) : ∃ (k : Nat) (hk : k < (slotsT 7 (numT 4 ((dlO 1 bs).filter freeO))).length), (bs.take j).countP (fun b => !b) = k ∧
    (slotsT 7 (numT 4 ((dlO 1 bs).filter freeO)))[k].1 = 7 + (k : Int) ∧ (slotsT 7 (numT 4 ((dlO 1 bs).filter freeO)))[k].2.ticket = (j : Int) + 1 ∧ (slotsT 7 (numT 4 ((dlO 1 bs).filter freeO)))[k].2.r.seq = 5 + (k : Int) := by
  obtain ⟨hk, e⟩ := getElem_of_getElem? (filter_at 1 bs j h hb)
  generalize (bs.take j).countP (fun b => !b) = k at *
  have h1 : k < (numT 4 ((dlO 1 bs).filter freeO)).length := by rw [numT_length]; exact hk
  refine ⟨k, by rw [slotsT_length]; exact h1, rfl, ?_⟩
  rw [slotsT_get 7 _ k (by rw [slotsT_length]; exact h1)]
  dsimp only
  rw [numT_get 4 _ k hk, e]
  dsimp only [dO]
  exact ⟨rfl, by omega, by omega⟩

set_option maxHeartbeats 8000000 in
set_option maxRecDepth 100000 in
theorem tokOwn_calls (v : Value) (bs : List Bool) (w : World) (hv : IsBools w v bs) :
    Calls Try.prog 6 #[v] w fun e w' => e = .returned (.bool true) ∧ RowKit.Below w.heap.size w w' := by
  obtain ⟨i0, hi0, hz0, hz1, hz2⟩ := info_parts Try.info41
  obtain ⟨a, cap, rfl, hcap, hcell⟩ := hv
  have Hcell := hide hcell
  clear hcell
  by_cases hlong : 30 < (bs.length : Int)
  · go_enter Try.func6, Try.ntmps6
    go_wp2_with fail
    refine (tokKnown_calls w).mono ?_
    rintro e w1 ⟨rfl, b1⟩
    go_wp2_with fail
    go_ret
    exact ⟨rfl, b1⟩
  have hlen : bs.length ≤ 30 := by omega
  have CD := hide (fun V => show Calls Try.prog 26 #[.int .i64 2, .int .i64 0, .slice none 0 0] V fun e w' => e = .returned (.agg #[.int .i64 1, .int .i64 2, .int .i64 0, .slice none 0 0, .string ⟨#[107]⟩, .string ⟨#[]⟩]) ∧ w' = V.alloc (.cells #[.int .i64 1, .int .i64 2, .int .i64 0, .slice none 0 0, .string ⟨#[107]⟩, .string ⟨#[]⟩] 41) from lawD_calls 2 0 (.slice none 0 0) [] V (IsNums.of_row (World.ownsRow_nil _ 0 3 1)))
  go_enter Try.func6, Try.ntmps6
  go_wp2_with fail
  refine (tokKnown_calls w).mono ?_
  rintro e w1 ⟨rfl, b1⟩
  have hst : OwnS w (w1.heap.size + 2) (w1.heap.size + 1) w1.heap.size ((w1.alloc (.cells #[.int .i64 0, .int .i64 0, .int .i64 4] 3)).alloc (.cells #[.int .i64 2, .int .i64 7, .slice (some ⟨w1.heap.size, 0, none⟩) 3 3, .slice none 0 0] 26)) (.slice none 0 0) [] := by
    refine ⟨(b1.alloc b1.size _).alloc (by have := b1.size; simp; omega) _, ⟨b1.size, by omega, by omega⟩, by simp, ?_, ?_, World.ownsRow_nil _ _ _ _, fun q hq => by cases hq⟩
    · have h := World.alloc_heap_new (w1.alloc (.cells #[.int .i64 0, .int .i64 0, .int .i64 4] 3)) (.cells #[.int .i64 2, .int .i64 7, .slice (some ⟨w1.heap.size, 0, none⟩) 3 3, .slice none 0 0] 26)
      simpa using h
    · exact (Below.heap_alloc _ _ _ (by simp)).trans (World.alloc_heap_new w1 _)
  have Hst := hide hst
  clear hst b1
  go_upto_region 6 with fail
  generalize ((w1.alloc (.cells #[.int .i64 0, .int .i64 0, .int .i64 4] 3)).alloc (.cells #[.int .i64 2, .int .i64 7, .slice (some ⟨w1.heap.size, 0, none⟩) 3 3, .slice none 0 0] 26)) = W0 at *
  go_wp2_with fail
  go_loopw [4, 5, 6] (fun v n i wr => ∃ (i' : Nat) (ol : List Dv), i' ≤ bs.length ∧ n = .int .i64 (((bs.take i').countP (fun b => !b) : Nat) : Int) ∧ i = .int .i64 (i' : Int) ∧ ol.map (·.d) = dlO 1 (bs.take i') ∧ OwnS w (w1.heap.size + 2) (w1.heap.size + 1) w1.heap.size wr v ol) (fun _ _ i _ => bs.length - (intOf i).toNat)
  case atStart => exact ⟨0, [], Nat.zero_le _, rfl, rfl, rfl, Hst.out⟩
  case round =>
    clear Hst
    obtain ⟨i', ol, hi, rfl, rfl, hol, hst⟩ := hrel
    have hoL : ol.length = i' := by
      have := congrArg List.length hol
      simp only [List.length_map, dlO_length, List.length_take] at this
      omega
    have hcn := List.countP_le_length (p := fun b => !b) (l := bs.take i')
    simp only [List.length_take] at hcn
    obtain ⟨n, hn⟩ : ∃ n, (bs.take i').countP (fun b => !b) = n := ⟨_, rfl⟩
    rw [hn] at hcn ⊢
    obtain ⟨ua, uc, rfl⟩ := ownsRow_slice hst.row
    have Hn := hide hn
    have Hol := hide hol
    have hol3 : ol.length ≤ 30 := by omega
    have HoL := hide hoL
    clear hoL
    have Hst := hide hst
    clear hn hol hst
    by_cases h1 : i' < bs.length
    · have h1L : (i' : Int) < (bs.length : Int) := by omega
      obtain ⟨vb, vo, rfl, hc⟩ := Hcell.out i' h1
      have htk : bs.take (i' + 1) = bs.take i' ++ [bs[i']] := List.take_succ_eq_append_getElem h1
      have hbx1 := box_below wr (.cells #[.int .i64 1, .int .i64 2, .int .i64 0, .slice none 0 0, .string ⟨#[107]⟩, .string ⟨#[]⟩] 41)
      have hbx2 := box_below (wr.alloc (.cells #[.int .i64 1, .int .i64 2, .int .i64 0, .slice none 0 0, .string ⟨#[107]⟩, .string ⟨#[]⟩] 41)) (.cells #[.int .i64 1, .int .i64 2, .int .i64 0, .slice none 0 0, .string ⟨#[107]⟩, .string ⟨#[]⟩] 41)
      have hD := World.alloc_heap_new (wr.alloc (.cells #[.int .i64 1, .int .i64 2, .int .i64 0, .slice none 0 0, .string ⟨#[107]⟩, .string ⟨#[]⟩] 41)) (.cells #[.int .i64 1, .int .i64 2, .int .i64 0, .slice none 0 0, .string ⟨#[107]⟩, .string ⟨#[]⟩] 41)
      have HB := hide (hbx1.trans (hbx2.mono hbx1.size))
      have HD := hide hD
      clear hbx1 hbx2 hD
      go_upto_region 12 with (go_at_call 26; refine (CD.out _).mono ?_; rintro e w2 ⟨rfl, rfl⟩)
      have hdb : ∀ x : World, wr.heap.size + 1 = x.heap.size → x.heap.size = wr.heap.size + 1 := fun x h => h.symm
      clear hdb
      generalize hW1 : ((wr.alloc (.cells #[.int .i64 1, .int .i64 2, .int .i64 0, .slice none 0 0, .string ⟨#[107]⟩, .string ⟨#[]⟩] 41)).alloc (.cells #[.int .i64 1, .int .i64 2, .int .i64 0, .slice none 0 0, .string ⟨#[107]⟩, .string ⟨#[]⟩] 41)) = W1 at *
      have hsz1 : W1.heap.size = wr.heap.size + 2 := by rw [← hW1]; simp
      clear hW1
      replace HD := hide (show W1.heap[wr.heap.size + 1]? = some (.cells #[.int .i64 1, .int .i64 2, .int .i64 0, .slice none 0 0, .string ⟨#[107]⟩, .string ⟨#[]⟩] 41 (0, 0)) by have := HD.out; simpa using this)
      obtain ⟨db, hdb⟩ : ∃ db, wr.heap.size + 1 = db := ⟨_, rfl⟩
      rw [hdb] at HD ⊢
      have hsv : wr.heap.size ≤ db ∧ db < W1.heap.size := by omega
      clear hdb hsz1
      obtain ⟨d0, d1, d2, d3, d4, d5, f0, f1, f2, f3, f4, f5⟩ := cells6T HD.out
      go_upto_region 13 with fail
      clear d0 d1 d2 d3 d4 d5 f0 f1 f2 f3 f4 f5
      have HD1 := hide (by simpa using setAt (j := 0) HD.out (.int .i64 ((i' : Int) + 1)) : (W1.setCell ⟨db, 0, none⟩ (.int .i64 ((i' : Int) + 1))).heap[db]? = some (.cells #[.int .i64 ((i' : Int) + 1), .int .i64 2, .int .i64 0, .slice none 0 0, .string ⟨#[107]⟩, .string ⟨#[]⟩] 41 (0, 0)))
      have HB1 := hide (HB.out.setCell (p := ⟨db, 0, none⟩) hsv.1 (.int .i64 ((i' : Int) + 1)))
      have hsv1 : db < (W1.setCell ⟨db, 0, none⟩ (.int .i64 ((i' : Int) + 1))).heap.size := by simpa using hsv.2
      generalize W1.setCell ⟨db, 0, none⟩ (.int .i64 ((i' : Int) + 1)) = W2 at *
      have Hst2 := hide (Hst.out.new HB1.out)
      have hzs2 := Hst2.out.size
      have hc2 := (Hst2.out.below.cell (p := ⟨vb, vo + i', none⟩) (World.block_lt_of_cell? w _ hc)).trans hc
      clear hc HD HB
      obtain ⟨d0, d1, d2, d3, d4, d5, f0, f1, f2, f3, f4, f5⟩ := cells6T HD1.out
      cases hb : bs[i'] with
      | false =>
        rw [hb] at hc2 htk
        have hcp : (bs.take (i' + 1)).countP (fun b => !b) = n + 1 := by rw [htk, List.countP_append, Hn.out]; rfl
        have hds : dlO 1 (bs.take (i' + 1)) = dlO 1 (bs.take i') ++ [dO ((i' : Int) + 1) false] := by rw [htk, dlO_snoc, List.length_take, Nat.min_eq_left hi, Int.add_comm]
        clear HB1 hsv Hst
        have Hdq := hide (show W2.ownsRow (w1.heap.size + 2) 3 1 (Dv.vd ⟨dO ((i' : Int) + 1) false, .slice none 0 0⟩) 0 [] from World.ownsRow_nil _ _ _ _)
        go_wp2_with (at_builtin; refine wpList_append_own _ rfl _ _ 24 rfl (w1.heap.size + 2) 41 i0 _ 6 80 Try.underlying24 hi0 hz0 hz1 hz2 rfl (by decide) _ _ _ rfl (World.ownsRow.alloc Hst2.out.row _) ⟨_, 0, none⟩ 1 1 (Dv.cells (⟨dO ((i' : Int) + 1) false, .slice none 0 0⟩)) rfl rfl (cells_new rfl) (one6 rfl) (by unfold maxLen; omega) (by omega) (by simp; omega) ?_; intro v3 w3 hown3 hgrow3 _; have Hst3 := hide (Hst2.out.add Hdq.out hown3 hgrow3); obtain ⟨g3, c3, rfl⟩ := ownsRow_succ hown3)
        exact ⟨⟨i' + 1, ol ++ [⟨dO ((i' : Int) + 1) false, .slice none 0 0⟩], by omega, by rw [hcp]; go_num, by go_num, by rw [List.map_append, Hol.out, hds]; rfl, Hst3.out⟩, by simp [intOf]; omega⟩
      | true =>
        rw [hb] at hc2 htk
        have hcp : (bs.take (i' + 1)).countP (fun b => !b) = n := by rw [htk, List.countP_append, Hn.out]; rfl
        have hds : dlO 1 (bs.take (i' + 1)) = dlO 1 (bs.take i') ++ [dO ((i' : Int) + 1) true] := by rw [htk, dlO_snoc, List.length_take, Nat.min_eq_left hi, Int.add_comm]
        have hbl := box_below W2 (.cells #[.int .i64 1] 3)
        have hlit := World.ownsRow_lit (base := w1.heap.size + 2) (e := 3) (size := 1) W2 #[.int .i64 1] 1 (Hst2.out.size) (by unfold maxLen; omega) rfl
        have HD3 := hide (keepB HD1.out hbl)
        have HB4 := hide (((HB1.out.trans (hbl.mono HB1.out.size)).setCell (p := ⟨db, 3, none⟩) hsv.1 (.slice (some ⟨W2.heap.size, 0, none⟩) 1 1)))
        have Hlit := hide hlit
        clear hlit hbl HB1 HD1 Hst2 d0 d1 d2 d3 d4 d5 f0 f1 f2 f3 f4 f5
        obtain ⟨d0, d1, d2, d3, d4, d5, f0, f1, f2, f3, f4, f5⟩ := cells6T HD3.out
        go_upto_region 14 with fail
        go_upto_region 16 with fail
        clear d0 d1 d2 d3 d4 d5 f0 f1 f2 f3 f4 f5 hc2
        have HD4 := hide (by simpa using setAt (j := 3) HD3.out (.slice (some ⟨W2.heap.size, 0, none⟩) 1 1) : ((W2.alloc (.cells #[.int .i64 1] 3)).setCell ⟨db, 3, none⟩ (.slice (some ⟨W2.heap.size, 0, none⟩) 1 1)).heap[db]? = some (.cells #[.int .i64 ((i' : Int) + 1), .int .i64 2, .int .i64 0, .slice (some ⟨W2.heap.size, 0, none⟩) 1 1, .string ⟨#[107]⟩, .string ⟨#[]⟩] 41 (0, 0)))
        have Hdq := hide (ownsRow_of_heap (W' := (W2.alloc (.cells #[.int .i64 1] 3)).setCell ⟨db, 3, none⟩ (.slice (some ⟨W2.heap.size, 0, none⟩) 1 1)) Hlit.out fun k e => Below.heap_setCell _ _ _ _ (by simp only [Value.ownBlock, Option.some.injEq] at e; show k ≠ db; omega))
        have Hst4 := hide (Hst.out.new HB4.out)
        obtain ⟨W4, hW4⟩ : ∃ W4, (W2.setCell ⟨db, 3, none⟩ (.slice (some ⟨W2.heap.size, 0, none⟩) 1 1)).alloc (.cells #[.int .i64 1] 3) = W4 := ⟨_, rfl⟩
        have hcm : (W2.alloc (.cells #[.int .i64 1] 3)).setCell ⟨db, 3, none⟩ (.slice (some ⟨W2.heap.size, 0, none⟩) 1 1) = W4 := by rw [← hW4]; go_simp
        rw [hcm] at HD4 Hdq Hst4
        rw [hW4]
        clear hcm hW4
        clear HB4 HD3 Hlit Hst
        have hzs4 := Hst4.out.size
        obtain ⟨d0, d1, d2, d3, d4, d5, -⟩ := cells6T HD4.out
        generalize W2.heap.size = eb at *
        go_wp2_with (at_builtin; refine wpList_append_own _ rfl _ _ 24 rfl (w1.heap.size + 2) 41 i0 _ 6 80 Try.underlying24 hi0 hz0 hz1 hz2 rfl (by decide) _ _ _ rfl (World.ownsRow.alloc Hst4.out.row _) ⟨_, 0, none⟩ 1 1 (Dv.cells ⟨dO ((i' : Int) + 1) true, .slice (some ⟨eb, 0, none⟩) 1 1⟩) rfl rfl (cells_new rfl) (one6 rfl) (by unfold maxLen; omega) (by omega) (by simp; omega) ?_; intro v3 w3 hown3 hgrow3 _; have Hst3 := hide (Hst4.out.add (q := ⟨dO ((i' : Int) + 1) true, .slice (some ⟨eb, 0, none⟩) 1 1⟩) Hdq.out hown3 hgrow3); obtain ⟨g3, c3, rfl⟩ := ownsRow_succ hown3)
        exact ⟨⟨i' + 1, ol ++ [⟨dO ((i' : Int) + 1) true, .slice (some ⟨eb, 0, none⟩) 1 1⟩], by omega, by rw [hcp], by go_num, by rw [List.map_append, Hol.out, hds]; rfl, Hst3.out⟩, by simp [intOf]; omega⟩
    · have hii : i' = bs.length := by omega
      subst hii
      have hfull : bs.take bs.length = bs := List.take_length
      replace Hn := hide (hfull ▸ Hn.out)
      replace Hol := hide (hfull ▸ Hol.out)
      obtain ⟨hL, hlate, hown, hnext, hseen⟩ := own_first bs hlen
      obtain ⟨hf1, hf2⟩ := filter_dlO 1 bs
      rw [Hn.out] at hf1
      have hsp := count_split bs
      rw [Hn.out] at hsp
      have hmem : ∀ d ∈ dlO 1 bs, DrOk d := fun d hd => by
        obtain ⟨j, b, rfl⟩ := dlO_mem 1 bs d hd
        exact dO_ok j b
      have hwait : ∀ d ∈ (admitT tO (dlO 1 bs)).1.late, ∃ j, d = dO j true := fun d hd => by
        rw [hlate] at hd
        obtain ⟨h3, h4⟩ := List.mem_filter.1 hd
        obtain ⟨j, b, rfl⟩ := dlO_mem 1 bs d h3
        rw [freeO_dO] at h4
        cases b with
        | false => cases h4
        | true => exact ⟨j, rfl⟩
      have hwf2 := tO_wf.goesOn (dlO 1 bs) hmem
      have hdrs := Hst.out.drs
      rw [Hol.out] at hdrs
      have CA := hide (admit_wf _ _ tO (dlO 1 bs) wr Hst.out.isTok hdrs tO_wf hmem (by rw [dlO_length]; omega) (by decide))
      have hLn : (admitT tO (dlO 1 bs)).2.length = n := by rw [hL, slotsT_length, numT_length, hf1]
      have hln : (admitT tO (dlO 1 bs)).1.late.length + n = bs.length := by rw [hlate, hf2]; omega
      have hat : ∀ (j : Nat) (h : j < bs.length), bs[j] = false → ∃ (k : Nat) (hk : k < (admitT tO (dlO 1 bs)).2.length), (bs.take j).countP (fun b => !b) = k ∧ (admitT tO (dlO 1 bs)).2[k].1 = 7 + (k : Int) ∧ (admitT tO (dlO 1 bs)).2[k].2.ticket = (j : Int) + 1 ∧ (admitT tO (dlO 1 bs)).2[k].2.r.seq = 5 + (k : Int) := by
        rw [hL]
        exact own_at bs
      rw [hf1] at hnext hseen
      rw [dlO_length] at hwf2
      clear hL hlate hf1 hf2 hmem hdrs hsp
      generalize (admitT tO (dlO 1 bs)).1 = t at *
      generalize (admitT tO (dlO 1 bs)).2 = L1 at *
      have Hseen := hide hseen
      have Hwait := hide hwait
      have Hwf2 := hide hwf2
      have Hat := hide hat
      have Hown := hide hown
      have Hnext := hide hnext
      clear hseen hwait hwf2 hat hown hnext
      obtain ⟨x0, x1, x2, x3, -⟩ := cells4T Hst.out.tok
      have hlow := Hst.out.low
      have hbw := Hst.out.below
      have Hbw := hide hbw
      have hzr := Hst.out.size
      have HoL2 := HoL.out
      clear Hst hbw HoL
      rw [HoL2] at CA ⊢
      clear HoL2 Hol Hn
      go_upto_region 17 with fail
      go_wp2_with (go_at_call 17; refine CA.out.mono ?_)
      rintro e w2 ⟨vt', vs', rfl, htok, hsls, hb2⟩
      obtain ⟨sa, sc, la, lc, rfl, -, -⟩ := htok.tok
      obtain ⟨qa, qc, rfl⟩ := hsls.sls.form
      have hbx := box_below w2 (.cells #[.int .i64 t.own, .int .i64 t.next, .slice sa t.seen.length sc, .slice la t.late.length lc] 26)
      have hu := World.alloc_heap_new w2 (.cells #[.int .i64 t.own, .int .i64 t.next, .slice sa t.seen.length sc, .slice la t.late.length lc] 26)
      have HS := hide ((htok.mono (K' := fun k => k ≠ w2.heap.size) fun k h1 h2 => by omega).new hbx)
      have HSl := hide (hsls.new hbx).sls
      have HBw := hide (Hbw.out.trans ((hb2.trans (hbx.mono hb2.size)).mono Hbw.out.size))
      have Hu := hide hu
      clear htok hsls hb2 hbx hu CA Hbw x0 x1 x2 x3
      go_upto_region 18 with fail
      generalize w2.alloc (.cells #[.int .i64 t.own, .int .i64 t.next, .slice sa t.seen.length sc, .slice la t.late.length lc] 26) = W5 at *
      generalize w2.heap.size = ub at *
      obtain ⟨x0, x1, x2, x3, -⟩ := cells4T Hu.out
      rw [Hnext.out] at x1
      have hm1 : ((t.late.length : Int) != (bs.length : Int) - (n : Int)) = false := by
        have : (t.late.length : Int) = (bs.length : Int) - (n : Int) := by omega
        rw [this]
        simp
      have hm2 : ((L1.length : Int) != (n : Int)) = false := by rw [hLn]; simp
      go_wp2_with fail
      clear x0 x1 x2 x3 hm1 hm2
      go_loopw [10, 11] (fun kv j wx => ∃ j' : Nat, j' ≤ bs.length ∧ kv = .int .i64 (((bs.take j').countP (fun b => !b) : Nat) : Int) ∧ j = .int .i64 (j' : Int) ∧ wx = W5) (fun _ j _ => bs.length - (intOf j).toNat)
      case atStart => exact ⟨0, Nat.zero_le _, rfl, rfl, rfl⟩
      case round =>
        obtain ⟨j', hj, rfl, rfl, hwx⟩ := hrel
        rw [hwx]
        by_cases h3 : j' < bs.length
        · have hjL : (j' : Int) < (bs.length : Int) := by omega
          have htk : bs.take (j' + 1) = bs.take j' ++ [bs[j']] := List.take_succ_eq_append_getElem h3
          obtain ⟨vb, vo, rfl, hc⟩ := Hcell.out j' h3
          replace hc := (HBw.out.cell (p := ⟨vb, vo + j', none⟩) (World.block_lt_of_cell? w _ hc)).trans hc
          cases hb : bs[j'] with
          | true =>
            rw [hb] at hc htk
            have hcp : (bs.take (j' + 1)).countP (fun b => !b) = (bs.take j').countP (fun b => !b) := by rw [htk, List.countP_append]; rfl
            generalize (bs.take j').countP (fun b => !b) = k0 at *
            clear htk
            go_wp2_with fail
            exact ⟨⟨j' + 1, by omega, by rw [hcp], by go_num, by first | trivial | rfl⟩, by simp [intOf]; omega⟩
          | false =>
            rw [hb] at hc htk
            obtain ⟨k0, hk0, hk1, e0, e1, e2⟩ := Hat.out j' h3 hb
            have hcp : (bs.take (j' + 1)).countP (fun b => !b) = k0 + 1 := by rw [htk, List.countP_append, hk1]; rfl
            rw [hk1]
            have hk0L : (k0 : Int) < (L1.length : Int) := by omega
            obtain ⟨a1, c1, he, hat⟩ := HSl.out
            simp only [Value.slice.injEq, true_and] at he
            obtain ⟨rfl, rfl⟩ := he
            obtain ⟨b, o, rfl, p0, ⟨-, -, p1, -, p2, -⟩⟩ := hat k0 hk0
            rw [e0] at p0
            rw [e1] at p1
            rw [e2] at p2
            replace p1 : W5.cell? ⟨b, o + k0 * 7 + 1, none⟩ = some (.int .i64 ((j' : Int) + 1)) := p1
            replace p2 : W5.cell? ⟨b, o + k0 * 7 + 1 + 1 + 1, none⟩ = some (.int .i64 (5 + (k0 : Int))) := p2
            clear hk1 htk hb e0 e1 e2 hat
            go_wp2_with fail
            exact ⟨⟨j' + 1, by omega, by rw [hcp]; go_num, by go_num, by first | trivial | rfl⟩, by simp [intOf]; omega⟩
        · have hjj : j' = bs.length := by omega
          subst hjj
          rw [List.take_length]
          generalize List.countP (fun b => !b) bs = n2 at *
          have hlb : t.late.length ≤ 30 := by omega
          obtain ⟨h2, hl2, hs2⟩ := own_then t t.late n hlb (by omega) Hown.out rfl Hseen.out Hwait.out
          have hwf3 := Hwf2.out.goesOn [dF] (by intro d hd; obtain rfl := List.mem_singleton.1 hd; exact dG_ok (site := 0) (seq := 1) (by decide) (by decide))
          have Had : Hid (∀ (V : World) (vl : Value), RowKit.Below W5.heap.size W5 V → IsDrs V vl [dG 0 1] → Calls Try.prog 17 #[.agg #[.int .i64 t.own, .int .i64 t.next, .slice sa t.seen.length sc, .slice la t.late.length lc], vl] V fun e w' => ∃ vt' vs, e = .returned (.tuple #[vt', vs]) ∧ TokS (fun k => V.heap.size ≤ k) w' vt' (admitT t [dF]).1 ∧ SlsS (fun k => V.heap.size ≤ k) w' vs (admitT t [dF]).2 ∧ RowKit.Below V.heap.size V w') := hide fun V vl hV hl => admit_wf _ vl t [dF] V (HS.out.new hV).tok hl Hwf2.out (by intro d hd; obtain rfl := List.mem_singleton.1 hd; exact dG_ok (site := 0) (seq := 1) (by decide) (by decide)) (by simp; omega) (by omega)
          have hLn2 : (admitT t [dF]).2.length = t.late.length + 1 := by rw [h2, slotsT_length, List.length_cons, numT_length]
          have hL0 : ∀ h : 0 < (admitT t [dF]).2.length, (admitT t [dF]).2[0].2.r.site = 0 := by
            rw [h2]
            intro h
            rfl
          clear h2
          have hsd := hwf3.seen.len
          have htb := ltB Hu.out
          clear hwf3
          generalize (admitT t [dF]).1 = tn at *
          generalize (admitT t [dF]).2 = L at *
          have Hs2 := hide hs2
          have HL0 := hide hL0
          have HLn2 := hide hLn2
          have Hl2 := hide hl2
          clear hs2 hL0 hLn2 hl2 hLn HSl Hat Hseen Hwait Hwf2 Hown Hnext Hcell
          obtain ⟨z, hz⟩ : ∃ z, W5.heap.size = z := ⟨_, rfl⟩
          go_upto_region 28 with fail
          go_cut [12, 13] (fun s12 s13 wx => ∃ ub2 sa' sc' la' lc' qa' qc', s12 = .pointer (some ⟨ub2, 0, none⟩) ∧ s13 = .slice qa' L.length qc' ∧ z ≤ ub2 ∧ wx.heap[ub2]? = some (.cells #[.int .i64 tn.own, .int .i64 tn.next, .slice sa' tn.seen.length sc', .slice la' tn.late.length lc'] 26 (0, 0)) ∧ TokS (fun k => z ≤ k ∧ k ≠ ub2) wx (.agg #[.int .i64 tn.own, .int .i64 tn.next, .slice sa' tn.seen.length sc', .slice la' tn.late.length lc']) tn ∧ SlsS (fun k => z ≤ k ∧ k ≠ ub2) wx (.slice qa' L.length qc') L ∧ RowKit.Below z W5 wx)
          case first =>
            have hbd : RowKit.Below z W5 W5.drew := (RowKit.Below.refl z W5).drew
            refine region_begin 10 (by kernel_rfl) rfl ?_
            have H0 := hide (show W5.drew.heap[ub]? = _ from Hu.out)
            have hz0 : W5.drew.heap.size = z := hz
            have Had0 : Hid (∀ (V : World) (vl : Value), RowKit.Below W5.drew.heap.size W5.drew V → IsDrs V vl [dG 0 1] → _) := hide fun V vl hV hl => Had.out V vl ((RowKit.Below.refl W5.heap.size W5).drew.trans hV) hl
            clear Had HS Hs2 HL0 HBw Hu CD
            generalize W5.drew = V0 at *
            subst hz
            have CD := hide (fun V => dG_calls (site := 0) (seq := 1) (by omega) V)
            have HB := hide (RowKit.Below.refl V0.heap.size V0)
            have Htb : Hid (ub < V0.heap.size) := hide (by omega)
            have Hz0 := hide hz0
            clear hz0
            refine stretchE (g := 1) 9 9 (fun X => X.cell? ⟨ub, 0, none⟩ = some (.int .i64 t.own) ∧ X.cell? ⟨ub, 1, none⟩ = some (.int .i64 t.next) ∧ X.cell? ⟨ub, 2, none⟩ = some (.slice sa t.seen.length sc) ∧ X.cell? ⟨ub, 3, none⟩ = some (.slice la t.late.length lc)) ?_
            generalize ub = tb at *
            refine HeadE.take 0 (.agg #[.int .i64 t.own, .int .i64 t.next, .slice sa t.seen.length sc, .slice la t.late.length lc]) rfl (by kernel_rfl) (.inl ⟨rfl, fun w2 ⟨s0, s1, s2, s3⟩ => by go_simp⟩) (by obtain ⟨a, b, c, d, -⟩ := cells4T H0.out; exact ⟨a, b, c, d⟩) ?_
            refine HeadE.all (rs := [1, 7]) (by kernel_rfl) (by simp) ?_
            intro i hi
            rcases List.mem_cons.1 hi with rfl | hi
            · clear hi
              refine wpOp_call rfl rfl 26 #[.int .i64 0, .int .i64 1, .slice none 0 0] (by go_simp) (CD.out V0) ?_
              rintro e w1 ⟨rfl, rfl⟩
              have hb1 := box_below V0 (.cells #[.int .i64 0, .int .i64 0, .int .i64 1, .slice none 0 0, .string ⟨#[107]⟩, .string ⟨#[]⟩] 41)
              have hz1 : V0.heap.size < (V0.alloc (.cells #[.int .i64 0, .int .i64 0, .int .i64 1, .slice none 0 0, .string ⟨#[107]⟩, .string ⟨#[]⟩] 41)).heap.size := by simp
              generalize V0.alloc (.cells #[.int .i64 0, .int .i64 0, .int .i64 1, .slice none 0 0, .string ⟨#[107]⟩, .string ⟨#[]⟩] 41) = Vd1 at *
              replace H0 := hide (keepB H0.out hb1)
              replace HB := hide (HB.out.trans (hb1.mono HB.out.size))
              clear hb1
              refine ⟨_, rfl, ?_, ?_⟩
              · exact by obtain ⟨a, b, c, d, -⟩ := cells4T H0.out; exact ⟨a, b, c, d⟩
              refine HeadE.all (rs := [2, 7]) (by kernel_rfl) (by simp) ?_
              intro i hi
              rcases List.mem_cons.1 hi with rfl | hi
              · clear hi
                refine wpOp_val rfl rfl (v := .slice (some ⟨Vd1.heap.size, 0, none⟩) 1 1) (w' := Vd1.alloc (.cells #[.int .i64 0, .int .i64 0, .int .i64 1, .slice none 0 0, .string ⟨#[107]⟩, .string ⟨#[]⟩] 41)) (by go_simp) ?_
                have hb2 := box_below Vd1 (.cells #[.int .i64 0, .int .i64 0, .int .i64 1, .slice none 0 0, .string ⟨#[107]⟩, .string ⟨#[]⟩] 41)
                have X2 := hide (World.alloc_heap_new Vd1 (.cells #[.int .i64 0, .int .i64 0, .int .i64 1, .slice none 0 0, .string ⟨#[107]⟩, .string ⟨#[]⟩] 41))
                have hz2 : Vd1.heap.size < (Vd1.alloc (.cells #[.int .i64 0, .int .i64 0, .int .i64 1, .slice none 0 0, .string ⟨#[107]⟩, .string ⟨#[]⟩] 41)).heap.size := by simp
                generalize Vd1.alloc (.cells #[.int .i64 0, .int .i64 0, .int .i64 1, .slice none 0 0, .string ⟨#[107]⟩, .string ⟨#[]⟩] 41) = Vd2 at *
                replace H0 := hide (keepB H0.out hb2)
                replace HB := hide (HB.out.trans (hb2.mono HB.out.size))
                clear hb2
                refine ⟨by obtain ⟨a, b, c, d, -⟩ := cells4T H0.out; exact ⟨a, b, c, d⟩, ?_⟩
                refine HeadE.all (rs := [3, 7]) (by kernel_rfl) (by simp) ?_
                intro i hi
                rcases List.mem_cons.1 hi with rfl | hi
                · clear hi
                  refine wpOp_call rfl rfl 17 #[.agg #[.int .i64 t.own, .int .i64 t.next, .slice sa t.seen.length sc, .slice la t.late.length lc], .slice (some ⟨Vd1.heap.size, 0, none⟩) 1 1] (by go_simp) (Had0.out Vd2 _ HB.out (dG_lit X2.out)) ?_
                  rintro e Vd3 ⟨vt', vs', rfl, htok, hsls, hbA⟩
                  obtain ⟨sa', sc', la', lc', rfl, -, -⟩ := htok.tok
                  obtain ⟨qa', qc', rfl⟩ := hsls.sls.form
                  replace htok := htok.mono (K' := fun k => Vd2.heap.size ≤ k ∧ k < Vd3.heap.size) fun k h1 h2 => ⟨h2, h1⟩
                  replace hsls := slsS_mono hsls (K' := fun k => Vd2.heap.size ≤ k ∧ k < Vd3.heap.size) fun k h1 h2 => ⟨h2, h1⟩
                  have hlo := HB.out.size
                  have hzA := hbA.size
                  replace H0 := hide (keepB H0.out hbA)
                  replace X2 := hide (keepB X2.out hbA)
                  replace HB := hide (HB.out.trans (hbA.mono HB.out.size))
                  have Htok := hide htok
                  have Hsls := hide hsls
                  clear htok hsls hbA
                  refine ⟨_, rfl, ?_, ?_⟩
                  · exact by obtain ⟨a, b, c, d, -⟩ := cells4T H0.out; exact ⟨a, b, c, d⟩
                  refine HeadE.take 4 (.tuple #[.agg #[.int .i64 tn.own, .int .i64 tn.next, .slice sa' tn.seen.length sc', .slice la' tn.late.length lc'], .slice qa' L.length qc']) rfl (by kernel_rfl) (.inl ⟨rfl, fun w2 _ => by go_simp⟩) (by obtain ⟨a, b, c, d, -⟩ := cells4T H0.out; exact ⟨a, b, c, d⟩) ?_
                  refine HeadE.take 5 (.agg #[.int .i64 tn.own, .int .i64 tn.next, .slice sa' tn.seen.length sc', .slice la' tn.late.length lc']) rfl (by kernel_rfl) (.inl ⟨rfl, fun w2 _ => by go_simp⟩) (by obtain ⟨a, b, c, d, -⟩ := cells4T H0.out; exact ⟨a, b, c, d⟩) ?_
                  refine HeadE.take 6 (.slice qa' L.length qc') rfl (by kernel_rfl) (.inl ⟨rfl, fun w2 _ => by go_simp⟩) (by obtain ⟨a, b, c, d, -⟩ := cells4T H0.out; exact ⟨a, b, c, d⟩) ?_
                  refine HeadE.only 7 (by kernel_rfl) ?_
                  refine wpOp_val rfl rfl (v := .pointer (some ⟨Vd3.heap.size, 0, none⟩)) (w' := Vd3.alloc (.cells #[.int .i64 0, .int .i64 0, .slice none 0 0, .slice none 0 0] 26)) (by go_simp) ?_
                  have hb4 := box_below Vd3 (.cells #[.int .i64 0, .int .i64 0, .slice none 0 0, .slice none 0 0] 26)
                  have X7 := hide (World.alloc_heap_new Vd3 (.cells #[.int .i64 0, .int .i64 0, .slice none 0 0, .slice none 0 0] 26))
                  have hz4 : Vd3.heap.size < (Vd3.alloc (.cells #[.int .i64 0, .int .i64 0, .slice none 0 0, .slice none 0 0] 26)).heap.size := by simp
                  generalize Vd3.alloc (.cells #[.int .i64 0, .int .i64 0, .slice none 0 0, .slice none 0 0] 26) = Vd4 at *
                  replace H0 := hide (keepB H0.out hb4)
                  replace X2 := hide (keepB X2.out hb4)
                  replace HB := hide (HB.out.trans (hb4.mono HB.out.size))
                  replace Htok := hide (Htok.out.new hb4)
                  replace Hsls := hide (Hsls.out.new hb4)
                  clear hb4
                  refine ⟨by obtain ⟨a, b, c, d, -⟩ := cells4T H0.out; exact ⟨a, b, c, d⟩, ?_⟩
                  refine HeadE.only 8 (by kernel_rfl) ?_
                  have hub : Vd3.heap.size < Vd2.heap.size ∨ Vd3.heap.size ≤ Vd3.heap.size := by omega
                  have hvu : V0.heap.size ≤ Vd3.heap.size := by omega
                  have hva : V0.heap.size ≤ Vd2.heap.size := by omega
                  have hne : tb ≠ Vd3.heap.size := by have := Htb.out; omega
                  obtain ⟨x0, x1, x2, x3, f0, f1, f2, f3⟩ := cells4T X7.out
                  refine wpOp_skip rfl rfl (w' := put4T Vd4 (Vd3.heap.size) (.int .i64 tn.own) (.int .i64 tn.next) (.slice sa' tn.seen.length sc') (.slice la' tn.late.length lc')) (by unfold put4T; go_simp) ?_
                  have hst := put4T_heap X7.out (.int .i64 tn.own) (.int .i64 tn.next) (.slice sa' tn.seen.length sc') (.slice la' tn.late.length lc')
                  have htk := (Htok.out.mono (K' := fun k => V0.heap.size ≤ k ∧ k ≠ Vd3.heap.size) fun k h1 h2 => ⟨by omega, by omega⟩).touch (put4T_touch (S := fun k => k = Vd3.heap.size) Vd4 rfl (.int .i64 tn.own) (.int .i64 tn.next) (.slice sa' tn.seen.length sc') (.slice la' tn.late.length lc')) fun k h => h.2
                  have hsl := (slsS_mono Hsls.out (K' := fun k => V0.heap.size ≤ k ∧ k ≠ Vd3.heap.size) fun k h1 h2 => ⟨by omega, by omega⟩).touch (put4T_touch (S := fun k => k = Vd3.heap.size) Vd4 rfl (.int .i64 tn.own) (.int .i64 tn.next) (.slice sa' tn.seen.length sc') (.slice la' tn.late.length lc')) fun k h => h.2
                  have hbl := put4T_below HB.out hvu (.int .i64 tn.own) (.int .i64 tn.next) (.slice sa' tn.seen.length sc') (.slice la' tn.late.length lc')
                  have h0' := (put4T_other tb hne (.int .i64 tn.own) (.int .i64 tn.next) (.slice sa' tn.seen.length sc') (.slice la' tn.late.length lc')).trans H0.out
                  clear x0 x1 x2 x3 f0 f1 f2 f3
                  generalize put4T Vd4 (Vd3.heap.size) (.int .i64 tn.own) (.int .i64 tn.next) (.slice sa' tn.seen.length sc') (.slice la' tn.late.length lc') = VE at *
                  replace H0 := hide h0'
                  refine ⟨by obtain ⟨a, b, c, d, -⟩ := cells4T H0.out; exact ⟨a, b, c, d⟩, ?_⟩
                  refine HeadE.fin (by kernel_rfl) ?_
                  refine onlyA 9 (by kernel_rfl) ?_
                  refine wpOp_val rfl rfl (v := .slice qa' L.length qc') (w' := VE) (by go_simp) ?_
                  refine endA (by kernel_rfl) ?_
                  go_simp
                  go_step
                  go_meet
                  exact ⟨_, sa', sc', la', lc', qa', qc', rfl, rfl, Hz0.out ▸ hvu, hst, Hz0.out ▸ htk, Hz0.out ▸ hsl, hbd.trans (Hz0.out ▸ hbl)⟩
                · obtain rfl : i = 7 := by simpa using hi
                  clear hi
                  refine wpOp_val rfl rfl (v := .pointer (some ⟨Vd2.heap.size, 0, none⟩)) (w' := Vd2.alloc (.cells #[.int .i64 0, .int .i64 0, .slice none 0 0, .slice none 0 0] 26)) (by go_simp) ?_
                  have hb5 := box_below Vd2 (.cells #[.int .i64 0, .int .i64 0, .slice none 0 0, .slice none 0 0] 26)
                  have X7 := hide (World.alloc_heap_new Vd2 (.cells #[.int .i64 0, .int .i64 0, .slice none 0 0, .slice none 0 0] 26))
                  have hz5 : Vd2.heap.size < (Vd2.alloc (.cells #[.int .i64 0, .int .i64 0, .slice none 0 0, .slice none 0 0] 26)).heap.size := by simp
                  generalize Vd2.alloc (.cells #[.int .i64 0, .int .i64 0, .slice none 0 0, .slice none 0 0] 26) = Vd5 at *
                  replace H0 := hide (keepB H0.out hb5)
                  replace X2 := hide (keepB X2.out hb5)
                  replace HB := hide (HB.out.trans (hb5.mono HB.out.size))
                  clear hb5
                  refine ⟨by obtain ⟨a, b, c, d, -⟩ := cells4T H0.out; exact ⟨a, b, c, d⟩, ?_⟩
                  refine HeadE.only 3 (by kernel_rfl) ?_
                  refine wpOp_call rfl rfl 17 #[.agg #[.int .i64 t.own, .int .i64 t.next, .slice sa t.seen.length sc, .slice la t.late.length lc], .slice (some ⟨Vd1.heap.size, 0, none⟩) 1 1] (by go_simp) (Had0.out Vd5 _ HB.out (dG_lit X2.out)) ?_
                  rintro e Vd6 ⟨vt', vs', rfl, htok, hsls, hbA⟩
                  obtain ⟨sa', sc', la', lc', rfl, -, -⟩ := htok.tok
                  obtain ⟨qa', qc', rfl⟩ := hsls.sls.form
                  replace htok := htok.mono (K' := fun k => Vd5.heap.size ≤ k ∧ k < Vd6.heap.size) fun k h1 h2 => ⟨h2, h1⟩
                  replace hsls := slsS_mono hsls (K' := fun k => Vd5.heap.size ≤ k ∧ k < Vd6.heap.size) fun k h1 h2 => ⟨h2, h1⟩
                  have hlo := HB.out.size
                  have hzA := hbA.size
                  replace H0 := hide (keepB H0.out hbA)
                  replace X2 := hide (keepB X2.out hbA)
                  replace X7 := hide (keepB X7.out hbA)
                  replace HB := hide (HB.out.trans (hbA.mono HB.out.size))
                  have Htok := hide htok
                  have Hsls := hide hsls
                  clear htok hsls hbA
                  refine ⟨_, rfl, ?_, ?_⟩
                  · exact by obtain ⟨a, b, c, d, -⟩ := cells4T H0.out; exact ⟨a, b, c, d⟩
                  refine HeadE.take 4 (.tuple #[.agg #[.int .i64 tn.own, .int .i64 tn.next, .slice sa' tn.seen.length sc', .slice la' tn.late.length lc'], .slice qa' L.length qc']) rfl (by kernel_rfl) (.inl ⟨rfl, fun w2 _ => by go_simp⟩) (by obtain ⟨a, b, c, d, -⟩ := cells4T H0.out; exact ⟨a, b, c, d⟩) ?_
                  refine HeadE.take 5 (.agg #[.int .i64 tn.own, .int .i64 tn.next, .slice sa' tn.seen.length sc', .slice la' tn.late.length lc']) rfl (by kernel_rfl) (.inl ⟨rfl, fun w2 _ => by go_simp⟩) (by obtain ⟨a, b, c, d, -⟩ := cells4T H0.out; exact ⟨a, b, c, d⟩) ?_
                  refine HeadE.take 6 (.slice qa' L.length qc') rfl (by kernel_rfl) (.inl ⟨rfl, fun w2 _ => by go_simp⟩) (by obtain ⟨a, b, c, d, -⟩ := cells4T H0.out; exact ⟨a, b, c, d⟩) ?_
                  refine HeadE.only 8 (by kernel_rfl) ?_
                  have hub : Vd2.heap.size < Vd5.heap.size ∨ Vd6.heap.size ≤ Vd2.heap.size := by omega
                  have hvu : V0.heap.size ≤ Vd2.heap.size := by omega
                  have hva : V0.heap.size ≤ Vd5.heap.size := by omega
                  have hne : tb ≠ Vd2.heap.size := by have := Htb.out; omega
                  obtain ⟨x0, x1, x2, x3, f0, f1, f2, f3⟩ := cells4T X7.out
                  refine wpOp_skip rfl rfl (w' := put4T Vd6 (Vd2.heap.size) (.int .i64 tn.own) (.int .i64 tn.next) (.slice sa' tn.seen.length sc') (.slice la' tn.late.length lc')) (by unfold put4T; go_simp) ?_
                  have hst := put4T_heap X7.out (.int .i64 tn.own) (.int .i64 tn.next) (.slice sa' tn.seen.length sc') (.slice la' tn.late.length lc')
                  have htk := (Htok.out.mono (K' := fun k => V0.heap.size ≤ k ∧ k ≠ Vd2.heap.size) fun k h1 h2 => ⟨by omega, by omega⟩).touch (put4T_touch (S := fun k => k = Vd2.heap.size) Vd6 rfl (.int .i64 tn.own) (.int .i64 tn.next) (.slice sa' tn.seen.length sc') (.slice la' tn.late.length lc')) fun k h => h.2
                  have hsl := (slsS_mono Hsls.out (K' := fun k => V0.heap.size ≤ k ∧ k ≠ Vd2.heap.size) fun k h1 h2 => ⟨by omega, by omega⟩).touch (put4T_touch (S := fun k => k = Vd2.heap.size) Vd6 rfl (.int .i64 tn.own) (.int .i64 tn.next) (.slice sa' tn.seen.length sc') (.slice la' tn.late.length lc')) fun k h => h.2
                  have hbl := put4T_below HB.out hvu (.int .i64 tn.own) (.int .i64 tn.next) (.slice sa' tn.seen.length sc') (.slice la' tn.late.length lc')
                  have h0' := (put4T_other tb hne (.int .i64 tn.own) (.int .i64 tn.next) (.slice sa' tn.seen.length sc') (.slice la' tn.late.length lc')).trans H0.out
                  clear x0 x1 x2 x3 f0 f1 f2 f3
                  generalize put4T Vd6 (Vd2.heap.size) (.int .i64 tn.own) (.int .i64 tn.next) (.slice sa' tn.seen.length sc') (.slice la' tn.late.length lc') = VE at *
                  replace H0 := hide h0'
                  refine ⟨by obtain ⟨a, b, c, d, -⟩ := cells4T H0.out; exact ⟨a, b, c, d⟩, ?_⟩
                  refine HeadE.fin (by kernel_rfl) ?_
                  refine onlyA 9 (by kernel_rfl) ?_
                  refine wpOp_val rfl rfl (v := .slice qa' L.length qc') (w' := VE) (by go_simp) ?_
                  refine endA (by kernel_rfl) ?_
                  go_simp
                  go_step
                  go_meet
                  exact ⟨_, sa', sc', la', lc', qa', qc', rfl, rfl, Hz0.out ▸ hvu, hst, Hz0.out ▸ htk, Hz0.out ▸ hsl, hbd.trans (Hz0.out ▸ hbl)⟩
              · obtain rfl : i = 7 := by simpa using hi
                clear hi
                refine wpOp_val rfl rfl (v := .pointer (some ⟨Vd1.heap.size, 0, none⟩)) (w' := Vd1.alloc (.cells #[.int .i64 0, .int .i64 0, .slice none 0 0, .slice none 0 0] 26)) (by go_simp) ?_
                have hb7 := box_below Vd1 (.cells #[.int .i64 0, .int .i64 0, .slice none 0 0, .slice none 0 0] 26)
                have X7 := hide (World.alloc_heap_new Vd1 (.cells #[.int .i64 0, .int .i64 0, .slice none 0 0, .slice none 0 0] 26))
                have hz7 : Vd1.heap.size < (Vd1.alloc (.cells #[.int .i64 0, .int .i64 0, .slice none 0 0, .slice none 0 0] 26)).heap.size := by simp
                generalize Vd1.alloc (.cells #[.int .i64 0, .int .i64 0, .slice none 0 0, .slice none 0 0] 26) = Vd7 at *
                replace H0 := hide (keepB H0.out hb7)
                replace HB := hide (HB.out.trans (hb7.mono HB.out.size))
                clear hb7
                refine ⟨by obtain ⟨a, b, c, d, -⟩ := cells4T H0.out; exact ⟨a, b, c, d⟩, ?_⟩
                refine HeadE.only 2 (by kernel_rfl) ?_
                refine wpOp_val rfl rfl (v := .slice (some ⟨Vd7.heap.size, 0, none⟩) 1 1) (w' := Vd7.alloc (.cells #[.int .i64 0, .int .i64 0, .int .i64 1, .slice none 0 0, .string ⟨#[107]⟩, .string ⟨#[]⟩] 41)) (by go_simp) ?_
                have hb8 := box_below Vd7 (.cells #[.int .i64 0, .int .i64 0, .int .i64 1, .slice none 0 0, .string ⟨#[107]⟩, .string ⟨#[]⟩] 41)
                have X2 := hide (World.alloc_heap_new Vd7 (.cells #[.int .i64 0, .int .i64 0, .int .i64 1, .slice none 0 0, .string ⟨#[107]⟩, .string ⟨#[]⟩] 41))
                have hz8 : Vd7.heap.size < (Vd7.alloc (.cells #[.int .i64 0, .int .i64 0, .int .i64 1, .slice none 0 0, .string ⟨#[107]⟩, .string ⟨#[]⟩] 41)).heap.size := by simp
                generalize Vd7.alloc (.cells #[.int .i64 0, .int .i64 0, .int .i64 1, .slice none 0 0, .string ⟨#[107]⟩, .string ⟨#[]⟩] 41) = Vd8 at *
                replace H0 := hide (keepB H0.out hb8)
                replace X7 := hide (keepB X7.out hb8)
                replace HB := hide (HB.out.trans (hb8.mono HB.out.size))
                clear hb8
                refine ⟨by obtain ⟨a, b, c, d, -⟩ := cells4T H0.out; exact ⟨a, b, c, d⟩, ?_⟩
                refine HeadE.only 3 (by kernel_rfl) ?_
                refine wpOp_call rfl rfl 17 #[.agg #[.int .i64 t.own, .int .i64 t.next, .slice sa t.seen.length sc, .slice la t.late.length lc], .slice (some ⟨Vd7.heap.size, 0, none⟩) 1 1] (by go_simp) (Had0.out Vd8 _ HB.out (dG_lit X2.out)) ?_
                rintro e Vd9 ⟨vt', vs', rfl, htok, hsls, hbA⟩
                obtain ⟨sa', sc', la', lc', rfl, -, -⟩ := htok.tok
                obtain ⟨qa', qc', rfl⟩ := hsls.sls.form
                replace htok := htok.mono (K' := fun k => Vd8.heap.size ≤ k ∧ k < Vd9.heap.size) fun k h1 h2 => ⟨h2, h1⟩
                replace hsls := slsS_mono hsls (K' := fun k => Vd8.heap.size ≤ k ∧ k < Vd9.heap.size) fun k h1 h2 => ⟨h2, h1⟩
                have hlo := HB.out.size
                have hzA := hbA.size
                replace H0 := hide (keepB H0.out hbA)
                replace X7 := hide (keepB X7.out hbA)
                replace X2 := hide (keepB X2.out hbA)
                replace HB := hide (HB.out.trans (hbA.mono HB.out.size))
                have Htok := hide htok
                have Hsls := hide hsls
                clear htok hsls hbA
                refine ⟨_, rfl, ?_, ?_⟩
                · exact by obtain ⟨a, b, c, d, -⟩ := cells4T H0.out; exact ⟨a, b, c, d⟩
                refine HeadE.take 4 (.tuple #[.agg #[.int .i64 tn.own, .int .i64 tn.next, .slice sa' tn.seen.length sc', .slice la' tn.late.length lc'], .slice qa' L.length qc']) rfl (by kernel_rfl) (.inl ⟨rfl, fun w2 _ => by go_simp⟩) (by obtain ⟨a, b, c, d, -⟩ := cells4T H0.out; exact ⟨a, b, c, d⟩) ?_
                refine HeadE.take 5 (.agg #[.int .i64 tn.own, .int .i64 tn.next, .slice sa' tn.seen.length sc', .slice la' tn.late.length lc']) rfl (by kernel_rfl) (.inl ⟨rfl, fun w2 _ => by go_simp⟩) (by obtain ⟨a, b, c, d, -⟩ := cells4T H0.out; exact ⟨a, b, c, d⟩) ?_
                refine HeadE.take 6 (.slice qa' L.length qc') rfl (by kernel_rfl) (.inl ⟨rfl, fun w2 _ => by go_simp⟩) (by obtain ⟨a, b, c, d, -⟩ := cells4T H0.out; exact ⟨a, b, c, d⟩) ?_
                refine HeadE.only 8 (by kernel_rfl) ?_
                have hub : Vd1.heap.size < Vd8.heap.size ∨ Vd9.heap.size ≤ Vd1.heap.size := by omega
                have hvu : V0.heap.size ≤ Vd1.heap.size := by omega
                have hva : V0.heap.size ≤ Vd8.heap.size := by omega
                have hne : tb ≠ Vd1.heap.size := by have := Htb.out; omega
                obtain ⟨x0, x1, x2, x3, f0, f1, f2, f3⟩ := cells4T X7.out
                refine wpOp_skip rfl rfl (w' := put4T Vd9 (Vd1.heap.size) (.int .i64 tn.own) (.int .i64 tn.next) (.slice sa' tn.seen.length sc') (.slice la' tn.late.length lc')) (by unfold put4T; go_simp) ?_
                have hst := put4T_heap X7.out (.int .i64 tn.own) (.int .i64 tn.next) (.slice sa' tn.seen.length sc') (.slice la' tn.late.length lc')
                have htk := (Htok.out.mono (K' := fun k => V0.heap.size ≤ k ∧ k ≠ Vd1.heap.size) fun k h1 h2 => ⟨by omega, by omega⟩).touch (put4T_touch (S := fun k => k = Vd1.heap.size) Vd9 rfl (.int .i64 tn.own) (.int .i64 tn.next) (.slice sa' tn.seen.length sc') (.slice la' tn.late.length lc')) fun k h => h.2
                have hsl := (slsS_mono Hsls.out (K' := fun k => V0.heap.size ≤ k ∧ k ≠ Vd1.heap.size) fun k h1 h2 => ⟨by omega, by omega⟩).touch (put4T_touch (S := fun k => k = Vd1.heap.size) Vd9 rfl (.int .i64 tn.own) (.int .i64 tn.next) (.slice sa' tn.seen.length sc') (.slice la' tn.late.length lc')) fun k h => h.2
                have hbl := put4T_below HB.out hvu (.int .i64 tn.own) (.int .i64 tn.next) (.slice sa' tn.seen.length sc') (.slice la' tn.late.length lc')
                have h0' := (put4T_other tb hne (.int .i64 tn.own) (.int .i64 tn.next) (.slice sa' tn.seen.length sc') (.slice la' tn.late.length lc')).trans H0.out
                clear x0 x1 x2 x3 f0 f1 f2 f3
                generalize put4T Vd9 (Vd1.heap.size) (.int .i64 tn.own) (.int .i64 tn.next) (.slice sa' tn.seen.length sc') (.slice la' tn.late.length lc') = VE at *
                replace H0 := hide h0'
                refine ⟨by obtain ⟨a, b, c, d, -⟩ := cells4T H0.out; exact ⟨a, b, c, d⟩, ?_⟩
                refine HeadE.fin (by kernel_rfl) ?_
                refine onlyA 9 (by kernel_rfl) ?_
                refine wpOp_val rfl rfl (v := .slice qa' L.length qc') (w' := VE) (by go_simp) ?_
                refine endA (by kernel_rfl) ?_
                go_simp
                go_step
                go_meet
                exact ⟨_, sa', sc', la', lc', qa', qc', rfl, rfl, Hz0.out ▸ hvu, hst, Hz0.out ▸ htk, Hz0.out ▸ hsl, hbd.trans (Hz0.out ▸ hbl)⟩
            · obtain rfl : i = 7 := by simpa using hi
              clear hi
              refine wpOp_val rfl rfl (v := .pointer (some ⟨V0.heap.size, 0, none⟩)) (w' := V0.alloc (.cells #[.int .i64 0, .int .i64 0, .slice none 0 0, .slice none 0 0] 26)) (by go_simp) ?_
              have hb10 := box_below V0 (.cells #[.int .i64 0, .int .i64 0, .slice none 0 0, .slice none 0 0] 26)
              have X7 := hide (World.alloc_heap_new V0 (.cells #[.int .i64 0, .int .i64 0, .slice none 0 0, .slice none 0 0] 26))
              have hz10 : V0.heap.size < (V0.alloc (.cells #[.int .i64 0, .int .i64 0, .slice none 0 0, .slice none 0 0] 26)).heap.size := by simp
              generalize V0.alloc (.cells #[.int .i64 0, .int .i64 0, .slice none 0 0, .slice none 0 0] 26) = Vd10 at *
              replace H0 := hide (keepB H0.out hb10)
              replace HB := hide (HB.out.trans (hb10.mono HB.out.size))
              clear hb10
              refine ⟨by obtain ⟨a, b, c, d, -⟩ := cells4T H0.out; exact ⟨a, b, c, d⟩, ?_⟩
              refine HeadE.only 1 (by kernel_rfl) ?_
              refine wpOp_call rfl rfl 26 #[.int .i64 0, .int .i64 1, .slice none 0 0] (by go_simp) (CD.out Vd10) ?_
              rintro e w1 ⟨rfl, rfl⟩
              have hb11 := box_below Vd10 (.cells #[.int .i64 0, .int .i64 0, .int .i64 1, .slice none 0 0, .string ⟨#[107]⟩, .string ⟨#[]⟩] 41)
              have hz11 : Vd10.heap.size < (Vd10.alloc (.cells #[.int .i64 0, .int .i64 0, .int .i64 1, .slice none 0 0, .string ⟨#[107]⟩, .string ⟨#[]⟩] 41)).heap.size := by simp
              generalize Vd10.alloc (.cells #[.int .i64 0, .int .i64 0, .int .i64 1, .slice none 0 0, .string ⟨#[107]⟩, .string ⟨#[]⟩] 41) = Vd11 at *
              replace H0 := hide (keepB H0.out hb11)
              replace X7 := hide (keepB X7.out hb11)
              replace HB := hide (HB.out.trans (hb11.mono HB.out.size))
              clear hb11
              refine ⟨_, rfl, ?_, ?_⟩
              · exact by obtain ⟨a, b, c, d, -⟩ := cells4T H0.out; exact ⟨a, b, c, d⟩
              refine HeadE.only 2 (by kernel_rfl) ?_
              refine wpOp_val rfl rfl (v := .slice (some ⟨Vd11.heap.size, 0, none⟩) 1 1) (w' := Vd11.alloc (.cells #[.int .i64 0, .int .i64 0, .int .i64 1, .slice none 0 0, .string ⟨#[107]⟩, .string ⟨#[]⟩] 41)) (by go_simp) ?_
              have hb12 := box_below Vd11 (.cells #[.int .i64 0, .int .i64 0, .int .i64 1, .slice none 0 0, .string ⟨#[107]⟩, .string ⟨#[]⟩] 41)
              have X2 := hide (World.alloc_heap_new Vd11 (.cells #[.int .i64 0, .int .i64 0, .int .i64 1, .slice none 0 0, .string ⟨#[107]⟩, .string ⟨#[]⟩] 41))
              have hz12 : Vd11.heap.size < (Vd11.alloc (.cells #[.int .i64 0, .int .i64 0, .int .i64 1, .slice none 0 0, .string ⟨#[107]⟩, .string ⟨#[]⟩] 41)).heap.size := by simp
              generalize Vd11.alloc (.cells #[.int .i64 0, .int .i64 0, .int .i64 1, .slice none 0 0, .string ⟨#[107]⟩, .string ⟨#[]⟩] 41) = Vd12 at *
              replace H0 := hide (keepB H0.out hb12)
              replace X7 := hide (keepB X7.out hb12)
              replace HB := hide (HB.out.trans (hb12.mono HB.out.size))
              clear hb12
              refine ⟨by obtain ⟨a, b, c, d, -⟩ := cells4T H0.out; exact ⟨a, b, c, d⟩, ?_⟩
              refine HeadE.only 3 (by kernel_rfl) ?_
              refine wpOp_call rfl rfl 17 #[.agg #[.int .i64 t.own, .int .i64 t.next, .slice sa t.seen.length sc, .slice la t.late.length lc], .slice (some ⟨Vd11.heap.size, 0, none⟩) 1 1] (by go_simp) (Had0.out Vd12 _ HB.out (dG_lit X2.out)) ?_
              rintro e Vd13 ⟨vt', vs', rfl, htok, hsls, hbA⟩
              obtain ⟨sa', sc', la', lc', rfl, -, -⟩ := htok.tok
              obtain ⟨qa', qc', rfl⟩ := hsls.sls.form
              replace htok := htok.mono (K' := fun k => Vd12.heap.size ≤ k ∧ k < Vd13.heap.size) fun k h1 h2 => ⟨h2, h1⟩
              replace hsls := slsS_mono hsls (K' := fun k => Vd12.heap.size ≤ k ∧ k < Vd13.heap.size) fun k h1 h2 => ⟨h2, h1⟩
              have hlo := HB.out.size
              have hzA := hbA.size
              replace H0 := hide (keepB H0.out hbA)
              replace X7 := hide (keepB X7.out hbA)
              replace X2 := hide (keepB X2.out hbA)
              replace HB := hide (HB.out.trans (hbA.mono HB.out.size))
              have Htok := hide htok
              have Hsls := hide hsls
              clear htok hsls hbA
              refine ⟨_, rfl, ?_, ?_⟩
              · exact by obtain ⟨a, b, c, d, -⟩ := cells4T H0.out; exact ⟨a, b, c, d⟩
              refine HeadE.take 4 (.tuple #[.agg #[.int .i64 tn.own, .int .i64 tn.next, .slice sa' tn.seen.length sc', .slice la' tn.late.length lc'], .slice qa' L.length qc']) rfl (by kernel_rfl) (.inl ⟨rfl, fun w2 _ => by go_simp⟩) (by obtain ⟨a, b, c, d, -⟩ := cells4T H0.out; exact ⟨a, b, c, d⟩) ?_
              refine HeadE.take 5 (.agg #[.int .i64 tn.own, .int .i64 tn.next, .slice sa' tn.seen.length sc', .slice la' tn.late.length lc']) rfl (by kernel_rfl) (.inl ⟨rfl, fun w2 _ => by go_simp⟩) (by obtain ⟨a, b, c, d, -⟩ := cells4T H0.out; exact ⟨a, b, c, d⟩) ?_
              refine HeadE.take 6 (.slice qa' L.length qc') rfl (by kernel_rfl) (.inl ⟨rfl, fun w2 _ => by go_simp⟩) (by obtain ⟨a, b, c, d, -⟩ := cells4T H0.out; exact ⟨a, b, c, d⟩) ?_
              refine HeadE.only 8 (by kernel_rfl) ?_
              have hub : V0.heap.size < Vd12.heap.size ∨ Vd13.heap.size ≤ V0.heap.size := by omega
              have hvu : V0.heap.size ≤ V0.heap.size := Nat.le_refl _
              have hva : V0.heap.size ≤ Vd12.heap.size := by omega
              have hne : tb ≠ V0.heap.size := by have := Htb.out; omega
              obtain ⟨x0, x1, x2, x3, f0, f1, f2, f3⟩ := cells4T X7.out
              refine wpOp_skip rfl rfl (w' := put4T Vd13 (V0.heap.size) (.int .i64 tn.own) (.int .i64 tn.next) (.slice sa' tn.seen.length sc') (.slice la' tn.late.length lc')) (by unfold put4T; go_simp) ?_
              have hst := put4T_heap X7.out (.int .i64 tn.own) (.int .i64 tn.next) (.slice sa' tn.seen.length sc') (.slice la' tn.late.length lc')
              have htk := (Htok.out.mono (K' := fun k => V0.heap.size ≤ k ∧ k ≠ V0.heap.size) fun k h1 h2 => ⟨by omega, by omega⟩).touch (put4T_touch (S := fun k => k = V0.heap.size) Vd13 rfl (.int .i64 tn.own) (.int .i64 tn.next) (.slice sa' tn.seen.length sc') (.slice la' tn.late.length lc')) fun k h => h.2
              have hsl := (slsS_mono Hsls.out (K' := fun k => V0.heap.size ≤ k ∧ k ≠ V0.heap.size) fun k h1 h2 => ⟨by omega, by omega⟩).touch (put4T_touch (S := fun k => k = V0.heap.size) Vd13 rfl (.int .i64 tn.own) (.int .i64 tn.next) (.slice sa' tn.seen.length sc') (.slice la' tn.late.length lc')) fun k h => h.2
              have hbl := put4T_below HB.out hvu (.int .i64 tn.own) (.int .i64 tn.next) (.slice sa' tn.seen.length sc') (.slice la' tn.late.length lc')
              have h0' := (put4T_other tb hne (.int .i64 tn.own) (.int .i64 tn.next) (.slice sa' tn.seen.length sc') (.slice la' tn.late.length lc')).trans H0.out
              clear x0 x1 x2 x3 f0 f1 f2 f3
              generalize put4T Vd13 (V0.heap.size) (.int .i64 tn.own) (.int .i64 tn.next) (.slice sa' tn.seen.length sc') (.slice la' tn.late.length lc') = VE at *
              replace H0 := hide h0'
              refine ⟨by obtain ⟨a, b, c, d, -⟩ := cells4T H0.out; exact ⟨a, b, c, d⟩, ?_⟩
              refine HeadE.fin (by kernel_rfl) ?_
              refine onlyA 9 (by kernel_rfl) ?_
              refine wpOp_val rfl rfl (v := .slice qa' L.length qc') (w' := VE) (by go_simp) ?_
              refine endA (by kernel_rfl) ?_
              go_simp
              go_step
              go_meet
              exact ⟨_, sa', sc', la', lc', qa', qc', rfl, rfl, Hz0.out ▸ hvu, hst, Hz0.out ▸ htk, Hz0.out ▸ hsl, hbd.trans (Hz0.out ▸ hbl)⟩
          case rest =>
            clear Had
            obtain ⟨ub2, sa', sc', la', lc', qa', qc', rfl, rfl, hzu, hub, htk, hsl, hbc⟩ := hcut
            have hbw := HBw.out.trans (hbc.mono (by have := HBw.out.size; omega))
            obtain ⟨x0, x1, x2, x3, -⟩ := cells4T hub
            rw [Hl2.out] at x3
            have hLn2 := HLn2.out
            obtain ⟨a1, c1, he, hat⟩ := hsl.sls
            simp only [Value.slice.injEq, true_and] at he
            obtain ⟨rfl, rfl⟩ := he
            obtain ⟨b, o, rfl, p0, ⟨-, -, -, p1, -⟩⟩ := hat 0 (by omega)
            rw [HL0.out (by omega)] at p1
            have hbx := box_below wc (.cells #[.int .i64 1, .int .i64 0, .int .i64 (4 + (bs.length : Int))] 3)
            have hnl := nums_lit (l := [1, 0, 4 + (bs.length : Int)]) (World.alloc_heap_new wc (.cells #[.int .i64 1, .int .i64 0, .int .i64 (4 + (bs.length : Int))] 3)) rfl
            obtain ⟨_, _, _, _, he, hnums, -⟩ := htk.tok
            simp only [Value.agg.injEq, Array.mk.injEq, List.cons.injEq, and_true, true_and, Value.slice.injEq] at he
            obtain ⟨⟨rfl, rfl⟩, -⟩ := he
            have hsv := Hs2.out
            rw [show 4 + (n : Int) + (t.late.length : Int) = 4 + (bs.length : Int) by omega] at hsv
            have HSV := hide (refSame_calls _ _ tn.seen [1, 0, 4 + (bs.length : Int)] _ (hnums.below hbx) hnl (by omega) (by simp))
            rw [hsv] at HSV
            have Hbe := hide (hbw.trans (hbx.mono hbw.size))
            have hLL : ((L.length : Int) == 1 + (bs.length : Int) - (n : Int)) = true := by
              have : (L.length : Int) = 1 + (bs.length : Int) - (n : Int) := by omega
              rw [this]
              simp
            clear HLn2 Hl2 hbx hnl hsv hnums htk hsl hat hbw hub Hs2 HL0
            go_upto_region 29 with fail
            go_wp2_with fail
            refine HSV.out.mono ?_
            rintro e w3 ⟨rfl, rfl⟩
            go_wp2_with fail
            go_ret
            exact ⟨rfl, Hbe.out⟩

end Go.Proofs.Ytdkpbfigjdmfpaa
