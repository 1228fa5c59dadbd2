/- Own work: the parts TK17 of the proof, laid together. -/
import Derived.Test.YtdkpbfigjdmfpaaPartTokenChain11
import Derived.Test.YtdkpbfigjdmfpaaPartTokenChain12
import Derived.Test.YtdkpbfigjdmfpaaPartTokenAdmit2
import Derived.Test.YtdkpbfigjdmfpaaPartTokenAdmit5
import Derived.Test.YtdkpbfigjdmfpaaPartTokenAdmit3
/- The law TokenSplit of layer 9. Own work; no statement. -/
set_option linter.unusedSimpArgs false
set_option linter.unusedVariables false
namespace Go.Proofs.Ytdkpbfigjdmfpaa
open Go.RowKit Go.Shelf Go.Sort

/-- The token that came in lies in the first box. -/
structure BoxT (w : World) (c : Array Value) (wr : World) : Prop where
  below : RowKit.Below w.heap.size w wr
  box : wr.heap[w.heap.size]? = some (.cells c 26 (0, 0))
theorem BoxT.new {w : World} {c : Array Value} {wr w' : World} (h : BoxT w c wr) (hb : RowKit.Below wr.heap.size wr w') : BoxT w c w' := ⟨h.below.trans (hb.mono h.below.size), keepB h.box hb⟩
theorem BoxT.lt {w : World} {c : Array Value} {wr : World} (h : BoxT w c wr) : w.heap.size < wr.heap.size := ltB h.box

theorem BoxT.grown {w : World} {c : Array Value} {wr w' : World} {e : TypeId} {sz : Nat} {v : Value} {n : Nat} {xs : List Value} (h : BoxT w c wr) (hrow : wr.ownsRow (w.heap.size + 1) e sz v n xs) (hg : wr.grownBy w' v.ownBlock) : BoxT w c w' :=
  ⟨h.below.grown hg h.below.size (fun k hk => by have := (hrow.lt k hk).1; omega), (hg.block _ h.lt (fun e => by have := (hrow.lt _ e.symm).1; omega)).trans h.box⟩
theorem cells5U {W : World} {b : Nat} {x0 x1 x2 x3 x4 : Value} {t : TypeId} (h : W.heap[b]? = some (.cells #[x0, x1, x2, x3, x4] t (0, 0))) :
    W.cell? ⟨b, 0, none⟩ = some x0 ∧ W.cell? ⟨b, 1, none⟩ = some x1 ∧ W.cell? ⟨b, 2, none⟩ = some x2 ∧ W.cell? ⟨b, 3, none⟩ = some x3 ∧ W.cell? ⟨b, 4, none⟩ = some x4 ∧ W.frozen? ⟨b, 0, none⟩ = false ∧ W.frozen? ⟨b, 1, none⟩ = false ∧ W.frozen? ⟨b, 2, none⟩ = false ∧ W.frozen? ⟨b, 3, none⟩ = false ∧ W.frozen? ⟨b, 4, none⟩ = false := by
  obtain ⟨h0, h1, h2, h3, h4⟩ := cells5T h
  exact ⟨h0, h1, h2, h3, h4, frozenAt h 0, frozenAt h 1, frozenAt h 2, frozenAt h 3, frozenAt h 4⟩
def put5T (W : World) (b : Nat) (v0 v1 v2 v3 v4 : Value) : World := ((((W.setCell ⟨b, 0, none⟩ v0).setCell ⟨b, 1, none⟩ v1).setCell ⟨b, 2, none⟩ v2).setCell ⟨b, 3, none⟩ v3).setCell ⟨b, 4, none⟩ v4
theorem put5T_heap {W : World} {b : Nat} {x0 x1 x2 x3 x4 : Value} {t : TypeId} {f : Nat × Nat} (h : W.heap[b]? = some (.cells #[x0, x1, x2, x3, x4] t f)) (v0 v1 v2 v3 v4 : Value) : (put5T W b v0 v1 v2 v3 v4).heap[b]? = some (.cells #[v0, v1, v2, v3, v4] t f) := by
  have := setAt (j := 4) (setAt (j := 3) (setAt (j := 2) (setAt (j := 1) (setAt (j := 0) h v0) v1) v2) v3) v4
  simpa [put5T] using this
theorem put5T_below {B b : Nat} {w W : World} (h : RowKit.Below B w W) (hb : B ≤ b) (v0 v1 v2 v3 v4 : Value) : RowKit.Below B w (put5T W b v0 v1 v2 v3 v4) := ((((h.setCell (p := ⟨b, 0, none⟩) hb v0).setCell (p := ⟨b, 1, none⟩) hb v1).setCell (p := ⟨b, 2, none⟩) hb v2).setCell (p := ⟨b, 3, none⟩) hb v3).setCell (p := ⟨b, 4, none⟩) hb v4
theorem put5T_other {b : Nat} {W : World} (k : Nat) (h : k ≠ b) (v0 v1 v2 v3 v4 : Value) : (put5T W b v0 v1 v2 v3 v4).heap[k]? = W.heap[k]? := by
  unfold put5T
  rw [Below.heap_setCell _ ⟨b, 4, none⟩ _ k h, Below.heap_setCell _ ⟨b, 3, none⟩ _ k h, Below.heap_setCell _ ⟨b, 2, none⟩ _ k h, Below.heap_setCell _ ⟨b, 1, none⟩ _ k h, Below.heap_setCell _ ⟨b, 0, none⟩ _ k h]
/-- A record is told in one way. -/
def told (x y : DrD) : Prop := keyEq x y → sameR x.r y.r = true

theorem told_dep {x y : DrD} (h : told x y) (hk : keyEq x y) : everyB eqB x.r.dep y.r.dep = true := by
  have := h hk
  unfold sameR at this
  simp only [Bool.and_eq_true] at this
  exact this.2.2.2.2
theorem eqB_symm {a b : List Int} (h : everyB eqB a b = true) : everyB eqB b a = true := by
  rw [same_iff] at h ⊢
  exact fun i => (h i).symm
theorem told_all {zs : List Dv} {all : List DrD} (hm : zs.map (·.d) = all) (h : ∀ a (ha : a < zs.length), a < zs.length → ∀ b (hb : b < zs.length), b < a → told zs[a].d zs[b].d) :
    ∀ x ∈ all, ∀ y ∈ all, keyEq x y → everyB eqB x.r.dep y.r.dep = true := by
  subst hm
  intro x hx y hy hk
  obtain ⟨q, hq, rfl⟩ := List.mem_map.1 hx
  obtain ⟨a, ha, rfl⟩ := List.mem_iff_getElem.1 hq
  obtain ⟨q, hq, rfl⟩ := List.mem_map.1 hy
  obtain ⟨b, hb, rfl⟩ := List.mem_iff_getElem.1 hq
  by_cases e : a = b
  · subst e
    exact (same_iff _ _).2 fun i => rfl
  · by_cases hlt : b < a
    · exact told_dep (h a ha ha b hb hlt) hk
    · exact eqB_symm (told_dep (h b hb hb a ha (by omega)) ⟨hk.1.symm, hk.2.symm⟩)

theorem checkN_in : ∀ l : List Int, checkN l = 0 → InS l
  | [], _, x, hx => by cases hx
  | n :: l, h, x, hx => by
    simp only [checkN] at h
    split at h
    · cases h
    · split at h
      · cases h
      · rcases List.mem_cons.1 hx with rfl | hx
        · omega
        · exact checkN_in l h x hx
theorem check_in9 {l : List Int} (h : checkL l 8 = 0) : l.length ≤ 8 ∧ InS l := by
  unfold checkL at h
  rw [if_neg (by decide)] at h
  split at h
  · cases h
  · exact ⟨by omega, checkN_in l h⟩
theorem good_wf {t : TokD} {l : List DrD} (g : GoodT t l) : TokWf t 40 1073741824 ∧ (∀ d ∈ l, DrOk d) ∧ ∀ d ∈ t.late ++ l, 0 ≤ d.r.site ∧ d.r.site ≤ 7 := by
  have hok : ∀ d ∈ t.late ++ l, DrOk d := fun d hd => by
    have h := g.all d hd
    exact ⟨h.site, h.seq, by have := (check_in9 h.dep).1; omega⟩
  have hc := g.check
  unfold checkT at hc
  split at hc
  · cases hc
  · rename_i hn
    obtain ⟨h8, hin⟩ := check_in9 hc
    refine ⟨⟨⟨by omega, fun j => ?_⟩, fun d hd => hok d (List.mem_append.2 (.inl hd)), fewD_len g.late, by omega, g.next⟩, fun d hd => hok d (List.mem_append.2 (.inr hd)), fun d hd => (g.all d hd).site⟩
    unfold geti
    split
    · omega
    · exact getD_inS hin _

theorem admit_count (t : TokD) (m : List DrD) : (admitT t m).2.length ≤ t.late.length + m.length := by
  have hc := adm_count (own := t.own) (t.late ++ m).length t.seen (t.late ++ m)
  have hl : (t.late ++ m).length = t.late.length + m.length := List.length_append
  unfold admitT
  dsimp only
  rw [slotsT_length]
  omega

set_option maxHeartbeats 8000000 in
set_option maxRecDepth 100000 in
theorem tokSplit_calls (vt vl : Value) (t : TokD) (l : List DrD) (w : World) (ht : IsTok w vt t) (hl : IsDrs w vl l) :
    Calls Try.prog 7 #[vt, vl] w fun e w' => e = .returned (.bool true) ∧ RowKit.Below w.heap.size w w' := by
  obtain ⟨i0, hi0, hz0, hz1, hz2⟩ := info_parts Try.info41
  obtain ⟨own, next, seen, late⟩ := t
  obtain ⟨sa, sc, la, lc, rfl, hn, hlate⟩ := ht
  dsimp only at *
  obtain ⟨va, vc, rfl⟩ := hl.form
  obtain ⟨W0, hW0, hsz, hB0, h0⟩ := new1T w #[.int .i64 own, .int .i64 next, .slice sa seen.length sc, .slice la late.length lc] 26
  have HX := hide (BoxT.mk hB0 h0)
  have CG := hide (fun V (hV : RowKit.Below w.heap.size w V) => good_calls (.agg #[.int .i64 own, .int .i64 next, .slice sa seen.length sc, .slice la late.length lc]) (.slice va l.length vc) ⟨own, next, seen, late⟩ l V ⟨_, _, _, _, rfl, hn.below hV, hlate.below hV⟩ (hl.below hV))
  have HW := hide hW0
  have HT := hide (show IsTok w (.agg #[.int .i64 own, .int .i64 next, .slice sa seen.length sc, .slice la late.length lc]) ⟨own, next, seen, late⟩ from ⟨_, _, _, _, rfl, hn, hlate⟩)
  have HL := hide hl
  obtain ⟨xs, hxs, hxr, hxn⟩ := hlate.rd
  obtain ⟨ys, hys, hyr, hyn⟩ := hl.rd
  have hxL : xs.length = late.length := by rw [← hxs, List.length_map]
  have hyL : ys.length = l.length := by rw [← hys, List.length_map]
  have Hxr := hide hxr
  have Hyr := hide hyr
  have Hxn := hide hxn
  have Hyn := hide hyn
  have Hxs := hide hxs
  have Hys := hide hys
  have HxL := hide hxL
  have HyL := hide hyL
  clear hW0 hB0 h0 hsz hn hlate hl hxr hyr hxn hyn hxs hys hxL hyL
  go_enter Try.func7, Try.ntmps7
  go_upto_region 1 with fail
  rw [HW.out]
  clear HW
  go_wp2_with fail
  refine (tokKnown_calls W0).mono ?_
  rintro e w1 ⟨rfl, b1⟩
  replace HX := hide (HX.out.new b1)
  obtain ⟨x0, x1, x2, x3, -⟩ := cells4T HX.out.box
  clear b1
  go_wp2_with (go_at_call 13; refine (CG.out _ HX.out.below).mono ?_)
  rintro e w2 ⟨c, rfl, hg, hb2⟩
  replace HX := hide (HX.out.new hb2)
  clear hb2 x0 x1 x2 x3 CG
  cases c with
  | false =>
    go_wp2_with fail
    go_ret
    exact ⟨rfl, HX.out.below⟩
  | true =>
    have Hg := hide (hg rfl)
    clear hg
    have hl40 := fewD_len Hg.out.more
    have ht40 := fewD_len Hg.out.late
    dsimp only at hl40 ht40
    go_wp2_with fail
    go_loopw [5] (fun i wr => ∃ k : Nat, k ≤ l.length ∧ i = .int .i64 (k : Int) ∧ (∀ j (h : j < ys.length), j < k → ys[j].d.r.site ≠ own) ∧ BoxT w #[.int .i64 own, .int .i64 next, .slice sa seen.length sc, .slice la late.length lc] wr) (fun i _ => l.length - (intOf i).toNat)
    case atStart => exact ⟨0, Nat.zero_le _, rfl, fun j _ h => by omega, HX.out⟩
    case round =>
      clear HX
      obtain ⟨k, hk, rfl, hall, hbx⟩ := hrel
      have Hall := hide hall
      have Hbx := hide hbx
      clear hall hbx
      by_cases h1 : k < l.length
      · have h1I : (k : Int) < (l.length : Int) := by omega
        have h1y : k < ys.length := by have := HyL.out; omega
        obtain ⟨a', cap', he, -, -, hat⟩ := Hyr.out
        obtain ⟨b, o, rfl, hc⟩ := hat k h1y
        simp only [Value.slice.injEq] at he
        obtain ⟨rfl, -, rfl⟩ := he
        obtain ⟨⟨⟨ticket, ⟨site, seq, dep, key, val⟩⟩, vd⟩, hx⟩ : ∃ x, ys[k] = x := ⟨_, rfl⟩
        rw [hx] at hc
        have hblt : b < w.heap.size := by
          have := hc 0 (by omega)
          exact World.block_lt_of_cell? w _ (this.trans (by simp [Dv.cells]; rfl))
        have c1 := (Hbx.out.below.cell (p := ⟨b, o + k * 6 + 1, none⟩) hblt).trans (hc 1 (by omega))
        simp only [Dv.cells, List.getElem?_cons_zero, List.getElem?_cons_succ] at c1
        obtain ⟨x0, x1, x2, x3, -⟩ := cells4T Hbx.out.box
        have hkk : ∀ h : ys[k].d.r.site ≠ own, ∀ j (hj : j < ys.length), j < k + 1 → ys[j].d.r.site ≠ own := fun h j hj hjk => by
          by_cases e : j = k
          · subst e
            exact h
          · exact Hall.out j hj (by omega)
        rw [hx] at hkk
        dsimp only at hkk
        have Hkk := hide hkk
        clear hx hc hat hblt hkk
        by_cases hso : site = own
        · have hsb : (site == own) = true := by simpa using hso
          clear hso
          go_upto_region 8 with fail
          go_quiet (fail)
          go_wp2_with fail
          go_ret
          exact ⟨rfl, (Hbx.out.new (drewsB wr nq)).below⟩
        · have hsb : (site == own) = false := by simpa using hso
          have Hso := hide hso
          clear hso
          go_upto_region 8 with fail
          go_quiet (fail)
          go_wp2_with fail
          exact ⟨⟨k + 1, by omega, by go_num, Hkk.out Hso.out, Hbx.out.new (drewsB wr nq)⟩, by simp [intOf]; omega⟩
      · have hkl : k = l.length := by omega
        subst hkl
        have Hmore : Hid (∀ q ∈ ys, q.d.r.site ≠ own) := hide fun q hq => by
          obtain ⟨j, hj, rfl⟩ := List.mem_iff_getElem.1 hq
          exact Hall.out j hj (by have := HyL.out; omega)
        clear Hall h1
        go_wp2_with fail
        go_loopw [6] (fun i wr => ∃ k : Nat, k ≤ late.length ∧ i = .int .i64 (k : Int) ∧ (∀ j (h : j < xs.length), j < k → xs[j].d.r.site ≠ own) ∧ BoxT w #[.int .i64 own, .int .i64 next, .slice sa seen.length sc, .slice la late.length lc] wr) (fun i _ => late.length - (intOf i).toNat)
        case atStart => exact ⟨0, Nat.zero_le _, rfl, fun j _ h => by omega, Hbx.out⟩
        case round =>
          clear Hbx
          obtain ⟨k, hk, rfl, hall, hbx⟩ := hrel
          have Hall := hide hall
          have Hbx := hide hbx
          clear hall hbx
          obtain ⟨x0, x1, x2, x3, -⟩ := cells4T Hbx.out.box
          by_cases h1 : k < late.length
          · have h1I : (k : Int) < (late.length : Int) := by omega
            have h1y : k < xs.length := by have := HxL.out; omega
            obtain ⟨a', cap', he, -, -, hat⟩ := Hxr.out
            obtain ⟨b, o, rfl, hc⟩ := hat k h1y
            simp only [Value.slice.injEq] at he
            obtain ⟨rfl, -, rfl⟩ := he
            obtain ⟨⟨⟨ticket, ⟨site, seq, dep, key, val⟩⟩, vd⟩, hx⟩ : ∃ x, xs[k] = x := ⟨_, rfl⟩
            rw [hx] at hc
            have hblt : b < w.heap.size := by
              have := hc 0 (by omega)
              exact World.block_lt_of_cell? w _ (this.trans (by simp [Dv.cells]; rfl))
            have c1 := (Hbx.out.below.cell (p := ⟨b, o + k * 6 + 1, none⟩) hblt).trans (hc 1 (by omega))
            simp only [Dv.cells, List.getElem?_cons_zero, List.getElem?_cons_succ] at c1
            have hkk : ∀ h : xs[k].d.r.site ≠ own, ∀ j (hj : j < xs.length), j < k + 1 → xs[j].d.r.site ≠ own := fun h j hj hjk => by
              by_cases e : j = k
              · subst e
                exact h
              · exact Hall.out j hj (by omega)
            rw [hx] at hkk
            dsimp only at hkk
            have Hkk := hide hkk
            clear hx hc hat hblt hkk
            by_cases hso : site = own
            · have hsb : (site == own) = true := by simpa using hso
              clear hso
              go_upto_region 13 with fail
              go_quiet (fail)
              go_wp2_with fail
              go_ret
              exact ⟨rfl, (Hbx.out.new (drewsB wr nq)).below⟩
            · have hsb : (site == own) = false := by simpa using hso
              have Hso := hide hso
              clear hso
              go_upto_region 13 with fail
              go_quiet (fail)
              go_wp2_with fail
              exact ⟨⟨k + 1, by omega, by go_num, Hkk.out Hso.out, Hbx.out.new (drewsB wr nq)⟩, by simp [intOf]; omega⟩
          · have hkl : k = late.length := by omega
            subst hkl
            have Hlt : Hid (∀ q ∈ xs, q.d.r.site ≠ own) := hide fun q hq => by
              obtain ⟨j, hj, rfl⟩ := List.mem_iff_getElem.1 hq
              exact Hall.out j hj (by have := HxL.out; omega)
            clear Hall h1
            have hzw := Hbx.out.lt
            have hlit : (wr.alloc (.cells #[] 41)).ownsRow (w.heap.size + 1) 41 6 (.slice (some ⟨wr.heap.size, 0, none⟩) 0 0) 0 [] := World.ownsRow_lit wr #[] 0 (by omega) (by unfold maxLen; omega) rfl
            have hbz := box_below wr (.cells #[] 41)
            have HX1 := hide (Hbx.out.new hbz)
            have HS1 := hide (Hxr.out.below HX1.out.below)
            have Hx1 : Hid (∀ q ∈ xs, ∃ a n c, q.vd = .slice a n c) := hide fun q hq => let ⟨a, c, e⟩ := (Hxn.out q hq).form; ⟨a, _, c, e⟩
            have Hy1 : Hid (∀ q ∈ ys, ∃ a n c, q.vd = .slice a n c) := hide fun q hq => let ⟨a, c, e⟩ := (Hyn.out q hq).form; ⟨a, _, c, e⟩
            have hx40 : xs.length ≤ 40 := by have := HxL.out; omega
            have hy40 : ys.length ≤ 40 := by have := HyL.out; omega
            have Hlit := hide hlit
            have Hbase : Hid (w.heap.size + 1 ≤ (wr.alloc (.cells #[] 41)).heap.size) := hide (by simp; omega)
            have HYL := hide (show (.slice va l.length vc : Value) = .slice va ys.length vc by rw [HyL.out])
            have HXL := hide (show (.slice la late.length lc : Value) = .slice la xs.length lc by rw [HxL.out])
            clear hlit hbz
            go_upto_region 15 with fail
            go_upto_region 16 with (first | (at_builtin; refine wpList_append_srcT rfl _ _ 24 rfl (w.heap.size + 1) 41 i0 _ 80 Try.underlying24 hi0 hz0 hz1 hz2 rfl _ _ _ rfl Hlit.out _ xs rfl HS1.out Hx1.out (by unfold maxLen; omega) (by omega) Hbase.out ?_; intro v5 w5 hown5 hgrow5; rw [Nat.zero_add, List.nil_append] at hown5; clear HS1; have HX5 := hide (HX1.out.grown Hlit.out hgrow5); have HS2 := hide (Hyr.out.below HX5.out.below); have hbs5 : w.heap.size + 1 ≤ w5.heap.size := Nat.le_trans Hbase.out hgrow5.size; have Hown5 := hide hown5; obtain ⟨a5, c5, rfl⟩ := ownsRow_slice hown5; clear hgrow5 hown5) | (at_builtin; refine wpList_append_srcT rfl _ _ 24 rfl (w.heap.size + 1) 41 i0 _ 80 Try.underlying24 hi0 hz0 hz1 hz2 rfl _ _ _ rfl Hown5.out _ ys rfl HS2.out Hy1.out (by unfold maxLen; omega) (by omega) hbs5 ?_; intro v6 w6 hown6 hgrow6; clear HS2; have HX6 := hide (HX5.out.grown Hown5.out hgrow6); clear hgrow6))
            obtain ⟨zs, hzs⟩ : ∃ zs, xs ++ ys = zs := ⟨_, rfl⟩
            have hzL : xs.length + ys.length = zs.length := by rw [← hzs, List.length_append]
            rw [hzL, ← List.flatMap_append, hzs] at hown6
            have Hzm : Hid (zs.map (·.d) = late ++ l) := hide (by rw [← hzs, List.map_append, Hxs.out, Hys.out])
            have Hzn : Hid (∀ q ∈ zs, IsNums .i64 w q.vd q.d.r.dep) := hide fun q hq => by
              rw [← hzs] at hq
              exact (List.mem_append.1 hq).elim (Hxn.out q) (Hyn.out q)
            have Hzd : Hid (∀ q ∈ zs, q.d.r.dep.length ≤ 70) := hide fun q hq => by
              have : q.d ∈ late ++ l := by rw [← Hzm.out]; exact List.mem_map.2 ⟨q, hq, rfl⟩
              exact (List.mem_append.1 this).elim (fewD_dep Hg.out.late) (fewD_dep Hg.out.more)
            have Hzo : Hid (∀ q ∈ zs, q.d.r.site ≠ own) := hide fun q hq => by
              rw [← hzs] at hq
              exact (List.mem_append.1 hq).elim (Hlt.out q) (Hmore.out q)
            have hz80 : zs.length ≤ 80 := by omega
            obtain ⟨a6, c6, he, -, -, hat⟩ := rdD_of_row hown6
            subst he
            have Hat := hide hat
            clear hzs hzL hat hown6 Hown5 HX5 hbs5 Hlit Hbase Hx1 Hy1 HX1 x0 x1 x2 x3 HYL HXL Hlt Hmore Hbx
            go_wp2_with fail
            go_loopw [8] (fun i wr => ∃ k : Nat, k ≤ zs.length ∧ i = .int .i64 (k : Int) ∧ (∀ a (ha : a < zs.length), a < k → ∀ b (hb : b < zs.length), b < a → told zs[a].d zs[b].d) ∧ BoxT w #[.int .i64 own, .int .i64 next, .slice sa seen.length sc, .slice la late.length lc] wr ∧ RowKit.Below w6.heap.size w6 wr) (fun i _ => zs.length - (intOf i).toNat)
            case atStart => exact ⟨0, Nat.zero_le _, rfl, fun a _ h => by omega, HX6.out, RowKit.Below.refl _ _⟩
            case round =>
              clear HX6
              obtain ⟨k, hk, rfl, hall, hbx, hb6⟩ := hrel
              have Hall := hide hall
              have Hbx := hide hbx
              have Hb6 := hide hb6
              clear hall hbx hb6
              by_cases h1 : k < zs.length
              · have h1I : (k : Int) < (zs.length : Int) := by omega
                go_wp2_with fail
                go_loopw [9] (fun i wr => ∃ m : Nat, m ≤ k ∧ i = .int .i64 (m : Int) ∧ (∀ b (hb : b < zs.length), b < m → told zs[k].d zs[b].d) ∧ BoxT w #[.int .i64 own, .int .i64 next, .slice sa seen.length sc, .slice la late.length lc] wr ∧ RowKit.Below w6.heap.size w6 wr) (fun i _ => k - (intOf i).toNat)
                case atStart => exact ⟨0, Nat.zero_le _, rfl, fun b _ h => by omega, Hbx.out, Hb6.out⟩
                case round =>
                  clear Hbx Hb6
                  obtain ⟨m, hm, rfl, hin, hbx, hb6⟩ := hrel
                  have Hin := hide hin
                  have Hbx := hide hbx
                  have Hb6 := hide hb6
                  clear hin hbx hb6
                  by_cases h2 : m < k
                  · have h2I : (m : Int) < (k : Int) := by omega
                    have h2z : m < zs.length := by omega
                    have h2J : (m : Int) < (zs.length : Int) := by omega
                    obtain ⟨b, o, rfl, hc⟩ := Hat.out k h1
                    obtain ⟨b', o', hbo, hc'⟩ := Hat.out m h2z
                    simp only [Option.some.injEq, Addr.mk.injEq, and_true] at hbo
                    obtain ⟨rfl, rfl⟩ := hbo
                    have hnk := Hzn.out zs[k] (List.getElem_mem h1)
                    have hdk := Hzd.out zs[k] (List.getElem_mem h1)
                    have hnm := Hzn.out zs[m] (List.getElem_mem h2z)
                    have hdm := Hzd.out zs[m] (List.getElem_mem h2z)
                    have hkm : ∀ x y : Dv, zs[k] = x → zs[m] = y → told x.d y.d → ∀ b (hb : b < zs.length), b < m + 1 → told zs[k].d zs[b].d := fun x y ex ey g b hb hbm => by
                      by_cases e : b = m
                      · subst e
                        rw [ex, ey]
                        exact g
                      · exact Hin.out b hb (by omega)
                    obtain ⟨⟨⟨ticket, ⟨site, seq, dep, key, val⟩⟩, vd⟩, hx⟩ : ∃ x, zs[k] = x := ⟨_, rfl⟩
                    obtain ⟨⟨⟨ticket', ⟨site', seq', dep', key', val'⟩⟩, vd'⟩, hy⟩ : ∃ x, zs[m] = x := ⟨_, rfl⟩
                    rw [hx] at hc hnk hdk
                    rw [hy] at hc' hnm hdm
                    dsimp only at hnk hdk hnm hdm
                    have Hkm := hide (hkm _ _ hx hy)
                    obtain ⟨da, dc, rfl⟩ := hnk.form
                    obtain ⟨da', dc', rfl⟩ := hnm.form
                    have hblt : b < w6.heap.size := by
                      have := hc 0 (by omega)
                      exact World.block_lt_of_cell? w6 _ (this.trans (by simp [Dv.cells]; rfl))
                    have HS := hide (show ∀ V : World, RowKit.Below w6.heap.size w6 V → V.cell? ⟨b, o + k * 6 + 1, none⟩ = some (.int .i64 site) ∧ V.cell? ⟨b, o + k * 6 + 2, none⟩ = some (.int .i64 seq) ∧ V.cell? ⟨b, o + k * 6 + 3, none⟩ = some (.slice da dep.length dc) ∧ V.cell? ⟨b, o + k * 6 + 4, none⟩ = some (.string key) ∧ V.cell? ⟨b, o + k * 6 + 5, none⟩ = some (.string val) ∧ V.cell? ⟨b, o + m * 6 + 1, none⟩ = some (.int .i64 site') ∧ V.cell? ⟨b, o + m * 6 + 2, none⟩ = some (.int .i64 seq') ∧ V.cell? ⟨b, o + m * 6 + 3, none⟩ = some (.slice da' dep'.length dc') ∧ V.cell? ⟨b, o + m * 6 + 4, none⟩ = some (.string key') ∧ V.cell? ⟨b, o + m * 6 + 5, none⟩ = some (.string val') from fun V hV => by
                      have f := fun j hj => (hV.cell (p := ⟨b, o + k * 6 + j, none⟩) hblt).trans (hc j hj)
                      have f' := fun j hj => (hV.cell (p := ⟨b, o + m * 6 + j, none⟩) hblt).trans (hc' j hj)
                      exact ⟨f 1 (by omega), f 2 (by omega), f 3 (by omega), f 4 (by omega), f 5 (by omega), f' 1 (by omega), f' 2 (by omega), f' 3 (by omega), f' 4 (by omega), f' 5 (by omega)⟩)
                    have Hnk := hide hnk
                    have Hnm := hide hnm
                    clear hx hy hc hc' hnk hnm hblt hkm
                    obtain ⟨z, hz⟩ : ∃ z, wr.heap.size = z := ⟨_, rfl⟩
                    go_upto_region 22 with fail
                    go_cut [10, 11] from 69 to 103 (fun s10 s11 wx => ∃ xb yb, s10 = .pointer (some ⟨xb, 0, none⟩) ∧ s11 = .pointer (some ⟨yb, 0, none⟩) ∧ xb ≠ yb ∧ z ≤ xb ∧ z ≤ yb ∧ wx.heap[xb]? = some (.cells #[.int .i64 site, .int .i64 seq, .slice da dep.length dc, .string key, .string val] 39 (0, 0)) ∧ wx.heap[yb]? = some (.cells #[.int .i64 site', .int .i64 seq', .slice da' dep'.length dc', .string key', .string val'] 39 (0, 0)) ∧ RowKit.Below z wr wx)
                    case first =>
                      have hd0 : RowKit.Below z wr wr.drew := (RowKit.Below.refl z wr).drew
                      refine region_begin 14 (by kernel_rfl) rfl ?_
                      have hz0 : wr.drew.heap.size = z := hz
                      have HZ := hide (Hb6.out.drew)
                      have Hz06 := hide (show w6.heap.size ≤ wr.drew.heap.size from Hb6.out.size)
                      clear Hall Hin Hbx Hb6 Hkm Hnk Hnm Hat Hzm Hzn Hzd Hzo Hg HT HL Hxr Hyr Hxn Hyn Hxs Hys HxL HyL
                      generalize wr.drew = V0 at *
                      have Hz0 := hide hz0
                      have Hd0 := hide hd0
                      clear hz hz0 hd0
                      have HV := hide (RowKit.Below.refl V0.heap.size V0)
                      refine stretchE (g := 1) 13 13 (fun V => V.cell? ⟨b, o + k * 6 + 1, none⟩ = some (.int .i64 site) ∧ V.cell? ⟨b, o + k * 6 + 2, none⟩ = some (.int .i64 seq) ∧ V.cell? ⟨b, o + k * 6 + 3, none⟩ = some (.slice da dep.length dc) ∧ V.cell? ⟨b, o + k * 6 + 4, none⟩ = some (.string key) ∧ V.cell? ⟨b, o + k * 6 + 5, none⟩ = some (.string val) ∧ V.cell? ⟨b, o + m * 6 + 1, none⟩ = some (.int .i64 site') ∧ V.cell? ⟨b, o + m * 6 + 2, none⟩ = some (.int .i64 seq') ∧ V.cell? ⟨b, o + m * 6 + 3, none⟩ = some (.slice da' dep'.length dc') ∧ V.cell? ⟨b, o + m * 6 + 4, none⟩ = some (.string key') ∧ V.cell? ⟨b, o + m * 6 + 5, none⟩ = some (.string val')) ?_
                      refine HeadE.take 0 (.slice (some ⟨b, o, none⟩) zs.length c6) rfl (by kernel_rfl) (.inl ⟨rfl, fun w2 ⟨s1, s2, s3, s4, s5, r1, r2, r3, r4, r5⟩ => by go_simp⟩) (HS.out _ HZ.out) ?_
                      refine HeadE.take 1 (.int .i64 (k : Int)) rfl (by kernel_rfl) (.inl ⟨rfl, fun w2 ⟨s1, s2, s3, s4, s5, r1, r2, r3, r4, r5⟩ => by go_simp⟩) (HS.out _ HZ.out) ?_
                      refine HeadE.take 2 (.pointer (some ⟨b, o + k * 6, none⟩)) rfl (by kernel_rfl) (.inl ⟨rfl, fun w2 ⟨s1, s2, s3, s4, s5, r1, r2, r3, r4, r5⟩ => by go_simp⟩) (HS.out _ HZ.out) ?_
                      refine HeadE.take 3 (.pointer (some ⟨b, o + k * 6 + 1, none⟩)) rfl (by kernel_rfl) (.inl ⟨rfl, fun w2 ⟨s1, s2, s3, s4, s5, r1, r2, r3, r4, r5⟩ => by go_simp⟩) (HS.out _ HZ.out) ?_
                      refine HeadE.take 4 (.agg #[.int .i64 site, .int .i64 seq, .slice da dep.length dc, .string key, .string val]) rfl (by kernel_rfl) (.inl ⟨rfl, fun w2 ⟨s1, s2, s3, s4, s5, r1, r2, r3, r4, r5⟩ => by go_simp⟩) (HS.out _ HZ.out) ?_
                      refine HeadE.take 5 (.slice (some ⟨b, o, none⟩) zs.length c6) rfl (by kernel_rfl) (.inl ⟨rfl, fun w2 ⟨s1, s2, s3, s4, s5, r1, r2, r3, r4, r5⟩ => by go_simp⟩) (HS.out _ HZ.out) ?_
                      refine HeadE.take 6 (.int .i64 (m : Int)) rfl (by kernel_rfl) (.inl ⟨rfl, fun w2 ⟨s1, s2, s3, s4, s5, r1, r2, r3, r4, r5⟩ => by go_simp⟩) (HS.out _ HZ.out) ?_
                      refine HeadE.take 7 (.pointer (some ⟨b, o + m * 6, none⟩)) rfl (by kernel_rfl) (.inl ⟨rfl, fun w2 ⟨s1, s2, s3, s4, s5, r1, r2, r3, r4, r5⟩ => by go_simp⟩) (HS.out _ HZ.out) ?_
                      refine HeadE.take 8 (.pointer (some ⟨b, o + m * 6 + 1, none⟩)) rfl (by kernel_rfl) (.inl ⟨rfl, fun w2 ⟨s1, s2, s3, s4, s5, r1, r2, r3, r4, r5⟩ => by go_simp⟩) (HS.out _ HZ.out) ?_
                      refine HeadE.take 9 (.agg #[.int .i64 site', .int .i64 seq', .slice da' dep'.length dc', .string key', .string val']) rfl (by kernel_rfl) (.inl ⟨rfl, fun w2 ⟨s1, s2, s3, s4, s5, r1, r2, r3, r4, r5⟩ => by go_simp⟩) (HS.out _ HZ.out) ?_
                      refine HeadE.all (rs := [10, 11]) (by kernel_rfl) (by simp) ?_
                      intro i hi
                      rcases List.mem_cons.1 hi with rfl | hi
                      · clear hi
                        refine wpOp_val rfl rfl (v := .pointer (some ⟨V0.heap.size, 0, none⟩)) (w' := V0.alloc (.cells #[.int .i64 0, .int .i64 0, .slice none 0 0, .string ⟨#[]⟩, .string ⟨#[]⟩] 39)) (by go_simp) ?_
                        have hb := box_below V0 (.cells #[.int .i64 0, .int .i64 0, .slice none 0 0, .string ⟨#[]⟩, .string ⟨#[]⟩] 39)
                        have HXb := hide (World.alloc_heap_new V0 (.cells #[.int .i64 0, .int .i64 0, .slice none 0 0, .string ⟨#[]⟩, .string ⟨#[]⟩] 39))
                        have hzHXb : V0.heap.size < (V0.alloc (.cells #[.int .i64 0, .int .i64 0, .slice none 0 0, .string ⟨#[]⟩, .string ⟨#[]⟩] 39)).heap.size := by simp
                        generalize V0.alloc (.cells #[.int .i64 0, .int .i64 0, .slice none 0 0, .string ⟨#[]⟩, .string ⟨#[]⟩] 39) = V1 at *
                        replace HZ := hide (HZ.out.trans (hb.mono HZ.out.size))
                        replace HV := hide (HV.out.trans (hb.mono HV.out.size))
                        clear hb
                        refine ⟨HS.out _ HZ.out, ?_⟩
                        refine HeadE.only 11 (by kernel_rfl) ?_
                        refine wpOp_val rfl rfl (v := .pointer (some ⟨V1.heap.size, 0, none⟩)) (w' := V1.alloc (.cells #[.int .i64 0, .int .i64 0, .slice none 0 0, .string ⟨#[]⟩, .string ⟨#[]⟩] 39)) (by go_simp) ?_
                        have hb := box_below V1 (.cells #[.int .i64 0, .int .i64 0, .slice none 0 0, .string ⟨#[]⟩, .string ⟨#[]⟩] 39)
                        have HYb := hide (World.alloc_heap_new V1 (.cells #[.int .i64 0, .int .i64 0, .slice none 0 0, .string ⟨#[]⟩, .string ⟨#[]⟩] 39))
                        have hzHYb : V1.heap.size < (V1.alloc (.cells #[.int .i64 0, .int .i64 0, .slice none 0 0, .string ⟨#[]⟩, .string ⟨#[]⟩] 39)).heap.size := by simp
                        generalize V1.alloc (.cells #[.int .i64 0, .int .i64 0, .slice none 0 0, .string ⟨#[]⟩, .string ⟨#[]⟩] 39) = V2 at *
                        replace HZ := hide (HZ.out.trans (hb.mono HZ.out.size))
                        replace HV := hide (HV.out.trans (hb.mono HV.out.size))
                        replace HXb := hide (keepB HXb.out hb)
                        clear hb
                        refine ⟨HS.out _ HZ.out, ?_⟩
                        have hne : V0.heap.size ≠ V1.heap.size := by omega
                        have hne' : V1.heap.size ≠ V0.heap.size := by omega
                        refine HeadE.only 12 (by kernel_rfl) ?_
                        obtain ⟨x0, x1, x2, x3, x4, f0, f1, f2, f3, f4⟩ := cells5U HXb.out
                        refine wpOp_skip rfl rfl (w' := put5T V2 (V0.heap.size) (.int .i64 site) (.int .i64 seq) (.slice da dep.length dc) (.string key) (.string val)) (by unfold put5T; go_simp) ?_
                        have hX := hide (put5T_heap HXb.out (.int .i64 site) (.int .i64 seq) (.slice da dep.length dc) (.string key) (.string val))
                        have hY := hide ((put5T_other (V1.heap.size) hne' (.int .i64 site) (.int .i64 seq) (.slice da dep.length dc) (.string key) (.string val)).trans HYb.out)
                        replace HZ := hide (put5T_below HZ.out (show w6.heap.size ≤ V0.heap.size by have := Hz06.out; omega) (.int .i64 site) (.int .i64 seq) (.slice da dep.length dc) (.string key) (.string val))
                        replace HV := hide (put5T_below HV.out (show V0.heap.size ≤ V0.heap.size by omega) (.int .i64 site) (.int .i64 seq) (.slice da dep.length dc) (.string key) (.string val))
                        clear x0 x1 x2 x3 x4 f0 f1 f2 f3 f4 HXb HYb
                        generalize put5T V2 (V0.heap.size) (.int .i64 site) (.int .i64 seq) (.slice da dep.length dc) (.string key) (.string val) = V3 at *
                        refine ⟨HS.out _ HZ.out, ?_⟩
                        refine HeadE.fin (by kernel_rfl) ?_
                        refine onlyA 13 (by kernel_rfl) ?_
                        obtain ⟨x0, x1, x2, x3, x4, f0, f1, f2, f3, f4⟩ := cells5U hY.out
                        refine wpOp_skip rfl rfl (w' := put5T V3 (V1.heap.size) (.int .i64 site') (.int .i64 seq') (.slice da' dep'.length dc') (.string key') (.string val')) (by unfold put5T; go_simp) ?_
                        have hY2 := put5T_heap hY.out (.int .i64 site') (.int .i64 seq') (.slice da' dep'.length dc') (.string key') (.string val')
                        have hX2 := (put5T_other (V0.heap.size) hne (.int .i64 site') (.int .i64 seq') (.slice da' dep'.length dc') (.string key') (.string val')).trans hX.out
                        have hV2 := put5T_below HV.out (show V0.heap.size ≤ V1.heap.size by omega) (.int .i64 site') (.int .i64 seq') (.slice da' dep'.length dc') (.string key') (.string val')
                        clear x0 x1 x2 x3 x4 f0 f1 f2 f3 f4 hX hY
                        generalize put5T V3 (V1.heap.size) (.int .i64 site') (.int .i64 seq') (.slice da' dep'.length dc') (.string key') (.string val') = VE at *
                        refine endA (by kernel_rfl) ?_
                        go_simp
                        go_step
                        go_meet
                        exact ⟨V0.heap.size, V1.heap.size, rfl, rfl, hne, Nat.le_of_eq Hz0.out.symm, by have := Hz0.out; omega, hX2, hY2, Hd0.out.trans (Hz0.out ▸ hV2)⟩
                      · obtain rfl : i = 11 := by simpa using hi
                        clear hi
                        refine wpOp_val rfl rfl (v := .pointer (some ⟨V0.heap.size, 0, none⟩)) (w' := V0.alloc (.cells #[.int .i64 0, .int .i64 0, .slice none 0 0, .string ⟨#[]⟩, .string ⟨#[]⟩] 39)) (by go_simp) ?_
                        have hb := box_below V0 (.cells #[.int .i64 0, .int .i64 0, .slice none 0 0, .string ⟨#[]⟩, .string ⟨#[]⟩] 39)
                        have HYb := hide (World.alloc_heap_new V0 (.cells #[.int .i64 0, .int .i64 0, .slice none 0 0, .string ⟨#[]⟩, .string ⟨#[]⟩] 39))
                        have hzHYb : V0.heap.size < (V0.alloc (.cells #[.int .i64 0, .int .i64 0, .slice none 0 0, .string ⟨#[]⟩, .string ⟨#[]⟩] 39)).heap.size := by simp
                        generalize V0.alloc (.cells #[.int .i64 0, .int .i64 0, .slice none 0 0, .string ⟨#[]⟩, .string ⟨#[]⟩] 39) = V1 at *
                        replace HZ := hide (HZ.out.trans (hb.mono HZ.out.size))
                        replace HV := hide (HV.out.trans (hb.mono HV.out.size))
                        clear hb
                        refine ⟨HS.out _ HZ.out, ?_⟩
                        refine HeadE.only 10 (by kernel_rfl) ?_
                        refine wpOp_val rfl rfl (v := .pointer (some ⟨V1.heap.size, 0, none⟩)) (w' := V1.alloc (.cells #[.int .i64 0, .int .i64 0, .slice none 0 0, .string ⟨#[]⟩, .string ⟨#[]⟩] 39)) (by go_simp) ?_
                        have hb := box_below V1 (.cells #[.int .i64 0, .int .i64 0, .slice none 0 0, .string ⟨#[]⟩, .string ⟨#[]⟩] 39)
                        have HXb := hide (World.alloc_heap_new V1 (.cells #[.int .i64 0, .int .i64 0, .slice none 0 0, .string ⟨#[]⟩, .string ⟨#[]⟩] 39))
                        have hzHXb : V1.heap.size < (V1.alloc (.cells #[.int .i64 0, .int .i64 0, .slice none 0 0, .string ⟨#[]⟩, .string ⟨#[]⟩] 39)).heap.size := by simp
                        generalize V1.alloc (.cells #[.int .i64 0, .int .i64 0, .slice none 0 0, .string ⟨#[]⟩, .string ⟨#[]⟩] 39) = V2 at *
                        replace HZ := hide (HZ.out.trans (hb.mono HZ.out.size))
                        replace HV := hide (HV.out.trans (hb.mono HV.out.size))
                        replace HYb := hide (keepB HYb.out hb)
                        clear hb
                        refine ⟨HS.out _ HZ.out, ?_⟩
                        have hne : V1.heap.size ≠ V0.heap.size := by omega
                        have hne' : V0.heap.size ≠ V1.heap.size := by omega
                        refine HeadE.only 12 (by kernel_rfl) ?_
                        obtain ⟨x0, x1, x2, x3, x4, f0, f1, f2, f3, f4⟩ := cells5U HXb.out
                        refine wpOp_skip rfl rfl (w' := put5T V2 (V1.heap.size) (.int .i64 site) (.int .i64 seq) (.slice da dep.length dc) (.string key) (.string val)) (by unfold put5T; go_simp) ?_
                        have hX := hide (put5T_heap HXb.out (.int .i64 site) (.int .i64 seq) (.slice da dep.length dc) (.string key) (.string val))
                        have hY := hide ((put5T_other (V0.heap.size) hne' (.int .i64 site) (.int .i64 seq) (.slice da dep.length dc) (.string key) (.string val)).trans HYb.out)
                        replace HZ := hide (put5T_below HZ.out (show w6.heap.size ≤ V1.heap.size by have := Hz06.out; omega) (.int .i64 site) (.int .i64 seq) (.slice da dep.length dc) (.string key) (.string val))
                        replace HV := hide (put5T_below HV.out (show V0.heap.size ≤ V1.heap.size by omega) (.int .i64 site) (.int .i64 seq) (.slice da dep.length dc) (.string key) (.string val))
                        clear x0 x1 x2 x3 x4 f0 f1 f2 f3 f4 HXb HYb
                        generalize put5T V2 (V1.heap.size) (.int .i64 site) (.int .i64 seq) (.slice da dep.length dc) (.string key) (.string val) = V3 at *
                        refine ⟨HS.out _ HZ.out, ?_⟩
                        refine HeadE.fin (by kernel_rfl) ?_
                        refine onlyA 13 (by kernel_rfl) ?_
                        obtain ⟨x0, x1, x2, x3, x4, f0, f1, f2, f3, f4⟩ := cells5U hY.out
                        refine wpOp_skip rfl rfl (w' := put5T V3 (V0.heap.size) (.int .i64 site') (.int .i64 seq') (.slice da' dep'.length dc') (.string key') (.string val')) (by unfold put5T; go_simp) ?_
                        have hY2 := put5T_heap hY.out (.int .i64 site') (.int .i64 seq') (.slice da' dep'.length dc') (.string key') (.string val')
                        have hX2 := (put5T_other (V1.heap.size) hne (.int .i64 site') (.int .i64 seq') (.slice da' dep'.length dc') (.string key') (.string val')).trans hX.out
                        have hV2 := put5T_below HV.out (show V0.heap.size ≤ V0.heap.size by omega) (.int .i64 site') (.int .i64 seq') (.slice da' dep'.length dc') (.string key') (.string val')
                        clear x0 x1 x2 x3 x4 f0 f1 f2 f3 f4 hX hY
                        generalize put5T V3 (V0.heap.size) (.int .i64 site') (.int .i64 seq') (.slice da' dep'.length dc') (.string key') (.string val') = VE at *
                        refine endA (by kernel_rfl) ?_
                        go_simp
                        go_step
                        go_meet
                        exact ⟨V1.heap.size, V0.heap.size, rfl, rfl, hne, by have := Hz0.out; omega, Nat.le_of_eq Hz0.out.symm, hX2, hY2, Hd0.out.trans (Hz0.out ▸ hV2)⟩
                    case rest =>
                      obtain ⟨xb, yb, rfl, rfl, hne, hzx, hzy, hX, hY, hbc⟩ := hcut
                      subst hz
                      have HB2 := hide (Hbx.out.new hbc)
                      have HB6 := hide (Hb6.out.trans (hbc.mono Hb6.out.size))
                      clear Hbx Hb6 hbc hzx hzy HS
                      obtain ⟨x0, x1, x2, x3, x4⟩ := cells5T hX
                      obtain ⟨y0, y1, y2, y3, y4⟩ := cells5T hY
                      have hne' : yb ≠ xb := fun e => hne e.symm
                      clear hX hY
                      by_cases hs : site = site'
                      case neg =>
                        have hsb : (site == site') = false := by simpa using hs
                        have Htd : Hid (told ⟨ticket, ⟨site, seq, dep, key, val⟩⟩ ⟨ticket', ⟨site', seq', dep', key', val'⟩⟩) := hide fun h => absurd h.1 hs
                        clear hs
                        go_upto_region 23 with fail
                        go_quiet (fail)
                        go_wp2_with fail
                        exact ⟨⟨m + 1, by omega, by go_num, Hkm.out Htd.out, HB2.out.new (drewsB wc nq), HB6.out.trans ((drewsB wc nq).mono HB6.out.size)⟩, by simp [intOf]; omega⟩
                      subst hs
                      by_cases hq : seq = seq'
                      case neg =>
                        have hsb : (seq == seq') = false := by simpa using hq
                        have Htd : Hid (told ⟨ticket, ⟨site, seq, dep, key, val⟩⟩ ⟨ticket', ⟨site, seq', dep', key', val'⟩⟩) := hide fun h => absurd h.2 hq
                        clear hq
                        go_upto_region 23 with fail
                        go_quiet (fail)
                        go_wp2_with fail
                        exact ⟨⟨m + 1, by omega, by go_num, Hkm.out Htd.out, HB2.out.new (drewsB wc nq), HB6.out.trans ((drewsB wc nq).mono HB6.out.size)⟩, by simp [intOf]; omega⟩
                      subst hq
                      obtain ⟨c, hc⟩ : ∃ c, sameR ⟨site, seq, dep, key, val⟩ ⟨site, seq, dep', key', val'⟩ = c := ⟨_, rfl⟩
                      go_upto_region 23 with fail
                      refine region_begin 20 (by kernel_rfl) (by kernel_rfl) ?_
                      have HBd := hide HB2.out.below.drew
                      have HB2d := hide (HB2.out.new (RowKit.Below.refl wc.heap.size wc).drew)
                      have HB6d := hide HB6.out.drew
                      replace x0 : wc.drew.cell? _ = _ := x0
                      replace x1 : wc.drew.cell? _ = _ := x1
                      replace x2 : wc.drew.cell? _ = _ := x2
                      replace x3 : wc.drew.cell? _ = _ := x3
                      replace x4 : wc.drew.cell? _ = _ := x4
                      replace y0 : wc.drew.cell? _ = _ := y0
                      replace y1 : wc.drew.cell? _ = _ := y1
                      replace y2 : wc.drew.cell? _ = _ := y2
                      replace y3 : wc.drew.cell? _ = _ := y3
                      replace y4 : wc.drew.cell? _ = _ := y4
                      clear HB2 HB6
                      generalize wc.drew = V0 at *
                      have HGw := hide (fun d os => HBd.out.trans ((below_regrown V0 d os).mono HBd.out.size))
                      have QX := hide (fun d os => Calls.regrown_of (recOfLaw_calls (.agg #[.int .i64 site, .int .i64 seq, .slice da dep.length dc, .string key, .string val]) ⟨site, seq, dep, key, val⟩ (Go.Sort.grow (redrawn V0 d) os) ⟨da, dc, rfl, Hnk.out.below (HGw.out d os)⟩))
                      have QY := hide (fun d os => Calls.regrown_of (recOfLaw_calls (.agg #[.int .i64 site, .int .i64 seq, .slice da' dep'.length dc', .string key', .string val']) ⟨site, seq, dep', key', val'⟩ (Go.Sort.grow (redrawn V0 d) os) ⟨da', dc', rfl, Hnm.out.below (HGw.out d os)⟩))
                      have QS := hide (fun d os => Calls.regrown_of (hc ▸ sameRec9_calls (.agg #[.int .i64 site, .int .i64 seq, .slice da dep.length dc, .string key, .string val]) (.agg #[.int .i64 site, .int .i64 seq, .slice da' dep'.length dc', .string key', .string val']) ⟨site, seq, dep, key, val⟩ ⟨site, seq, dep', key', val'⟩ (Go.Sort.grow (redrawn V0 d) os) ⟨da, dc, rfl, Hnk.out.below (HGw.out d os)⟩ ⟨da', dc', rfl, Hnm.out.below (HGw.out d os)⟩ (by dsimp only; omega) (by dsimp only; omega)))
                      replace x0 := cell_regrown x0
                      replace x1 := cell_regrown x1
                      replace x2 := cell_regrown x2
                      replace x3 := cell_regrown x3
                      replace x4 := cell_regrown x4
                      replace y0 := cell_regrown y0
                      replace y1 := cell_regrown y1
                      replace y2 := cell_regrown y2
                      replace y3 := cell_regrown y3
                      replace y4 := cell_regrown y4
                      have Hc := hide hc
                      clear hc
                      cases c with
                      | false =>
                        refine quietFromB 0 (by kernel_rfl) (by kernel_rfl) ?_
                        simp only [List.drop_zero]
                        first | go_big_quiet_step (fail) | quiet_step (fail)
                        first | go_big_quiet_step (fail) | quiet_step (fail)
                        first | go_big_quiet_step (fail) | quiet_step (fail)
                        first | go_big_quiet_step (fail) | quiet_step (fail)
                        first | go_big_quiet_step (fail) | quiet_step (fail)
                        first | go_big_quiet_step (fail) | quiet_step (fail)
                        first | go_big_quiet_step (fail) | quiet_step (fail)
                        first | go_big_quiet_step (fail) | quiet_step (fail)
                        first | go_big_quiet_step (fail) | quiet_step (fail)
                        first | go_big_quiet_step (fail) | quiet_step (fail)
                        first | go_big_quiet_step (fail) | quiet_step (fail)
                        first | go_big_quiet_step (fail) | quiet_step (fail)
                        first | go_big_quiet_step (fail) | quiet_step (fail)
                        first | go_big_quiet_step (fail) | quiet_step (fail)
                        first | go_big_quiet_step (exact QX.out _ _) | quiet_step (exact QX.out _ _)
                        first | go_big_quiet_step (fail) | quiet_step (fail)
                        first | go_big_quiet_step (exact QY.out _ _) | quiet_step (exact QY.out _ _)
                        first | go_big_quiet_step (exact QS.out _ _) | quiet_step (exact QS.out _ _)
                        first | go_big_quiet_step (fail) | quiet_step (fail)
                        first | go_big_quiet_step (fail) | quiet_step (fail)
                        refine wpQuiet_nil ?_
                        intro _ hw'
                        obtain ⟨⟨dq, osq⟩, hw''⟩ := hw'
                        subst hw''
                        clear x0 x1 x2 x3 x4 y0 y1 y2 y3 y4 QX QY QS
                        go_simp
                        try simp only [noPanic]
                        go_step
                        go_wp2_with fail
                        go_ret
                        exact ⟨rfl, HGw.out dq osq⟩
                      | true =>
                        have Htd : Hid (told ⟨ticket, ⟨site, seq, dep, key, val⟩⟩ ⟨ticket', ⟨site, seq, dep', key', val'⟩⟩) := hide fun _ => Hc.out
                        refine quietFromB 0 (by kernel_rfl) (by kernel_rfl) ?_
                        simp only [List.drop_zero]
                        first | go_big_quiet_step (fail) | quiet_step (fail)
                        first | go_big_quiet_step (fail) | quiet_step (fail)
                        first | go_big_quiet_step (fail) | quiet_step (fail)
                        first | go_big_quiet_step (fail) | quiet_step (fail)
                        first | go_big_quiet_step (fail) | quiet_step (fail)
                        first | go_big_quiet_step (fail) | quiet_step (fail)
                        first | go_big_quiet_step (fail) | quiet_step (fail)
                        first | go_big_quiet_step (fail) | quiet_step (fail)
                        first | go_big_quiet_step (fail) | quiet_step (fail)
                        first | go_big_quiet_step (fail) | quiet_step (fail)
                        first | go_big_quiet_step (fail) | quiet_step (fail)
                        first | go_big_quiet_step (fail) | quiet_step (fail)
                        first | go_big_quiet_step (fail) | quiet_step (fail)
                        first | go_big_quiet_step (fail) | quiet_step (fail)
                        first | go_big_quiet_step (exact QX.out _ _) | quiet_step (exact QX.out _ _)
                        first | go_big_quiet_step (fail) | quiet_step (fail)
                        first | go_big_quiet_step (exact QY.out _ _) | quiet_step (exact QY.out _ _)
                        first | go_big_quiet_step (exact QS.out _ _) | quiet_step (exact QS.out _ _)
                        first | go_big_quiet_step (fail) | quiet_step (fail)
                        first | go_big_quiet_step (fail) | quiet_step (fail)
                        refine wpQuiet_nil ?_
                        intro _ hw'
                        obtain ⟨⟨dq, osq⟩, hw''⟩ := hw'
                        subst hw''
                        clear x0 x1 x2 x3 x4 y0 y1 y2 y3 y4 QX QY QS
                        go_simp
                        try simp only [noPanic]
                        go_step
                        go_wp2_with fail
                        exact ⟨⟨m + 1, by omega, by go_num, Hkm.out Htd.out, HB2d.out.new (below_regrown V0 dq osq), HB6d.out.trans ((below_regrown V0 dq osq).mono HB6d.out.size)⟩, by simp [intOf]; omega⟩
                  · have hmk : m = k := by omega
                    subst hmk
                    go_wp2_with fail
                    refine ⟨⟨m + 1, by omega, by go_num, fun a ha ham b hb hba => ?_, Hbx.out, Hb6.out⟩, by simp [intOf]; omega⟩
                    by_cases e : a = m
                    · subst e
                      exact Hin.out b hb hba
                    · exact Hall.out a ha (by omega) b hb hba
              · have hkz : k = zs.length := by omega
                subst hkz
                have Htold : Hid (∀ x ∈ late ++ l, ∀ y ∈ late ++ l, keyEq x y → everyB eqB x.r.dep y.r.dep = true) := hide (told_all Hzm.out Hall.out)
                clear Hall
                obtain ⟨hwf, hlok, hoth⟩ := good_wf Hg.out
                have Hoth : Hid (othersT own (late ++ l)) := hide fun d hd => ⟨by
                  rw [← Hzm.out] at hd
                  obtain ⟨q, hq, rfl⟩ := List.mem_map.1 hd
                  exact Hzo.out q hq, (hoth d hd).1, (hoth d hd).2⟩
                have CA := hide (admit_wf _ _ ⟨own, next, seen, late⟩ l wr (HT.out.below Hbx.out.below) (HL.out.below Hbx.out.below) hwf hlok (by omega) (by decide))
                have hwf2 := hwf.goesOn l hlok
                have Hwf := hide hwf
                have Hlok := hide hlok
                have hseen8 := hwf2.seen.len
                clear hwf hlok hoth hwf2 Hg Hzm Hzn Hzd Hzo Hat Hb6 Hxr Hyr Hxn Hyn Hxs Hys HxL HyL
                have Hpl := hide (split_same ⟨own, next, seen, late⟩ l Hoth.out)
                generalize htu : (admitT ⟨own, next, seen, late⟩ l).1 = tu at *
                generalize hLu : (admitT ⟨own, next, seen, late⟩ l).2 = Lu at *
                clear htu hLu
                obtain ⟨x0, x1, x2, x3, -⟩ := cells4T Hbx.out.box
                go_upto_region 25 with fail
                go_wp2_with (go_at_call 17; refine CA.out.mono ?_)
                intro e w2 vt' vs' he htok hsls hb2
                subst he
                obtain ⟨sau, scu, lau, lcu, rfl, hnu, -⟩ := htok.tok
                obtain ⟨qau, qcu, rfl⟩ := hsls.sls.form
                clear x0 x1 x2 x3 CA hsls htok
                have hbx2 := box_below w2 (.cells #[.int .i64 tu.own, .int .i64 tu.next, .slice sau tu.seen.length scu, .slice lau tu.late.length lcu] 26)
                have hu := World.alloc_heap_new w2 (.cells #[.int .i64 tu.own, .int .i64 tu.next, .slice sau tu.seen.length scu, .slice lau tu.late.length lcu] 26)
                have HX2 := hide ((Hbx.out.new hb2).new hbx2)
                have Hnu := hide (hnu.below hbx2)
                have Hu := hide hu
                clear hb2 hbx2 hu hnu Hbx
                go_upto_region 26 with fail
                generalize w2.alloc (.cells #[.int .i64 tu.own, .int .i64 tu.next, .slice sau tu.seen.length scu, .slice lau tu.late.length lcu] 26) = W5 at *
                generalize w2.heap.size = ub at *
                have hub := ltB Hu.out
                have hw5 := HX2.out.lt
                have hbv := box_below W5 (.cells #[.int .i64 own, .int .i64 next, .slice sa seen.length sc, .slice la late.length lc] 26)
                have hv0 := World.alloc_heap_new W5 (.cells #[.int .i64 own, .int .i64 next, .slice sa seen.length sc, .slice la late.length lc] 26)
                have hat0 : TokAt (W5.alloc (.cells #[.int .i64 own, .int .i64 next, .slice sa seen.length sc, .slice la late.length lc] 26)) W5.heap.size ⟨own, next, seen, late⟩ := ⟨_, _, hv0, (HT.out.low.new (HX2.out.below.trans (hbv.mono HX2.out.below.size))).mono fun k _ h => by omega⟩
                have Hat0 := hide hat0
                have Hbv := hide hbv
                clear hat0 hbv hv0
                obtain ⟨x0, x1, x2, x3, -⟩ := cells4T HX2.out.box
                go_upto_region 27 with fail
                clear x0 x1 x2 x3
                generalize W5.alloc (.cells #[.int .i64 own, .int .i64 next, .slice sa seen.length sc, .slice la late.length lc] 26) = W6 at *
                generalize hvb : W5.heap.size = vb at *
                have HVb := hide hvb
                clear hvb
                go_wp2_with fail
                go_loopw [15, 16] (fun n i wx => ∃ (k : Nat) (tv : TokD) (N : Nat), k ≤ l.length ∧ n = .int .i64 (N : Int) ∧ i = .int .i64 (k : Int) ∧ N ≤ 100 * k ∧ (splitT tv (l.drop k)).1 = (splitT ⟨own, next, seen, late⟩ l).1 ∧ N + (splitT tv (l.drop k)).2 = (splitT ⟨own, next, seen, late⟩ l).2 ∧ TokWf tv (40 + k) (1073741824 + 100 * (k : Int)) ∧ TokAt wx vb tv ∧ RowKit.Below vb W5 wx) (fun _ i _ => l.length - (intOf i).toNat)
                case atStart => exact ⟨0, ⟨own, next, seen, late⟩, 0, Nat.zero_le _, rfl, rfl, Nat.zero_le _, rfl, Nat.zero_add _, Hwf.out.mono (by omega) (by omega), Hat0.out, Hbv.out⟩
                case round =>
                  clear Hat0 Hbv Hwf
                  obtain ⟨k, tv, N, hk, rfl, rfl, hN, hs1, hs2, hwf, ⟨sv, lv, h0, hS⟩, hbW⟩ := hrel
                  obtain ⟨sav, scv, lav, lcv, he, -, -⟩ := hS.tok
                  simp only [Value.agg.injEq, Array.mk.injEq, List.cons.injEq, and_true, true_and] at he
                  obtain ⟨rfl, rfl⟩ := he
                  have htb := ltB h0
                  have H0 := hide h0
                  have HS := hide hS
                  have HbW := hide hbW
                  have Hwf := hide hwf
                  have Hs1 := hide hs1
                  have Hs2 := hide hs2
                  clear h0 hS hbW hwf hs1 hs2
                  by_cases h1 : k < l.length
                  · have h1I : (k : Int) < (l.length : Int) := by omega
                    have hdr : l.drop k = l[k] :: l.drop (k + 1) := List.drop_eq_getElem_cons h1
                    obtain ⟨b, o, rfl, hcap, hone⟩ := HL.out.one k h1
                    have hok : DrOk l[k] := Hlok.out _ (List.getElem_mem h1)
                    rw [hdr] at Hs1 Hs2
                    have hwf2 := Hwf.out.goesOn [l[k]] (by intro d hd; obtain rfl := List.mem_singleton.1 hd; exact hok)
                    have hcnt := admit_count tv [l[k]]
                    have hlt := Hwf.out.len
                    have Had : Hid (∀ V : World, RowKit.Below wr.heap.size wr V → Calls Try.prog 17 #[.agg #[.int .i64 tv.own, .int .i64 tv.next, .slice sav tv.seen.length scv, .slice lav tv.late.length lcv], .slice (some ⟨b, o + k * 6, none⟩) 1 (vc - k)] V fun e w' => ∃ vt' vs, e = .returned (.tuple #[vt', vs]) ∧ TokS (fun k => V.heap.size ≤ k) w' vt' (admitT tv [l[k]]).1 ∧ SlsS (fun k => V.heap.size ≤ k) w' vs (admitT tv [l[k]]).2 ∧ RowKit.Below V.heap.size V w') := hide fun V hV => by
                      have hw : RowKit.Below w.heap.size w V := HX2.out.below.trans ((HbW.out.mono (by omega)).trans (hV.mono (by have := HbW.out.size; have := HVb.out; omega)))
                      exact admit_wf _ _ tv [l[k]] V (HS.out.new hV).tok (hone.below hw) Hwf.out (by intro d hd; obtain rfl := List.mem_singleton.1 hd; exact hok) (by simp; omega) (by omega)
                    replace Hs1 := hide (show (splitT (admitT tv [l[k]]).1 (l.drop (k + 1))).1 = _ from Hs1.out)
                    replace Hs2 := hide (show N + ((admitT tv [l[k]]).2.length + (splitT (admitT tv [l[k]]).1 (l.drop (k + 1))).2) = _ from Hs2.out)
                    simp only [List.length_cons, List.length_nil, Nat.zero_add] at hcnt hwf2
                    generalize (admitT tv [l[k]]).1 = tn at *
                    generalize (admitT tv [l[k]]).2 = L at *
                    have Hwf2 := hide hwf2
                    clear hwf2 hdr hone hok
                    obtain ⟨z, hz⟩ : ∃ z, wr.heap.size = z := ⟨_, rfl⟩
                    go_upto_region 31 with fail
                    go_cut [17, 18] from 111 to 131 (fun s17 s18 wx => ∃ ub2 sa' sc' la' lc' qa' qc', s17 = .pointer (some ⟨ub2, 0, none⟩) ∧ s18 = .slice qa' L.length qc' ∧ z ≤ ub2 ∧ wx.heap[ub2]? = some (.cells #[.int .i64 tn.own, .int .i64 tn.next, .slice sa' tn.seen.length sc', .slice la' tn.late.length lc'] 26 (0, 0)) ∧ TokS (fun k => z ≤ k ∧ k ≠ ub2) wx (.agg #[.int .i64 tn.own, .int .i64 tn.next, .slice sa' tn.seen.length sc', .slice la' tn.late.length lc']) tn ∧ SlsS (fun k => z ≤ k ∧ k ≠ ub2) wx (.slice qa' L.length qc') L ∧ RowKit.Below z wr wx)
                    case first =>
                      have hbd : RowKit.Below z wr wr.drew := (RowKit.Below.refl z wr).drew
                      refine region_begin 13 (by kernel_rfl) rfl ?_
                      replace H0 := hide (show wr.drew.heap[vb]? = _ from H0.out)
                      have hz0 : wr.drew.heap.size = z := hz
                      have Had0 : Hid (∀ (V : World), RowKit.Below wr.drew.heap.size wr.drew V → _) := hide fun V hV => Had.out V ((RowKit.Below.refl wr.heap.size wr).drew.trans hV)
                      clear Had HS Hs1 Hs2 Hwf Hwf2 HbW HX2 Hnu Hu Hpl Hoth Htold Hlok HT HL HVb
                      generalize wr.drew = V0 at *
                      have Htb : Hid (vb < V0.heap.size) := hide (by omega)
                      have Hz0 := hide hz0
                      have Hbd := hide hbd
                      clear hz hz0 hbd
                      have HB := hide (RowKit.Below.refl V0.heap.size V0)
                      refine stretchE (g := 1) 12 12 (fun X => X.cell? ⟨vb, 0, none⟩ = some (.int .i64 tv.own) ∧ X.cell? ⟨vb, 1, none⟩ = some (.int .i64 tv.next) ∧ X.cell? ⟨vb, 2, none⟩ = some (.slice sav tv.seen.length scv) ∧ X.cell? ⟨vb, 3, none⟩ = some (.slice lav tv.late.length lcv)) ?_
                      have hwrap : IntKind.i64.wrap ((k : Int) + 1) = (k : Int) + 1 := Go.IntWalk.i64_in _ (by omega)
                      have hv1 : (0 : Int) ≤ (k : Int) + 1 := by omega
                      have hv2 : (k : Int) + 1 ≤ (vc : Int) := by omega
                      have hv3 : ¬ vc = k := by omega
                      have hv4 : k ≤ k + 1 := by omega
                      generalize vb = tb at *
                      refine HeadE.take 0 (.agg #[.int .i64 tv.own, .int .i64 tv.next, .slice sav tv.seen.length scv, .slice lav tv.late.length lcv]) rfl (by kernel_rfl) (.inl ⟨rfl, fun w2 ⟨s0, s1, s2, s3⟩ => by go_simp⟩) (by obtain ⟨a, b, c, d, -⟩ := cells4T H0.out; exact ⟨a, b, c, d⟩) ?_
                      refine HeadE.take 1 (.slice (some ⟨b, o, none⟩) l.length vc) rfl (by kernel_rfl) (.inl ⟨rfl, fun w2 _ => by go_simp⟩) (by obtain ⟨a, b, c, d, -⟩ := cells4T H0.out; exact ⟨a, b, c, d⟩) ?_
                      refine HeadE.take 2 (.int .i64 (k : Int)) rfl (by kernel_rfl) (.inl ⟨rfl, fun w2 _ => by go_simp⟩) (by obtain ⟨a, b, c, d, -⟩ := cells4T H0.out; exact ⟨a, b, c, d⟩) ?_
                      refine HeadE.take 3 (.int .i64 (k : Int)) rfl (by kernel_rfl) (.inl ⟨rfl, fun w2 _ => by go_simp⟩) (by obtain ⟨a, b, c, d, -⟩ := cells4T H0.out; exact ⟨a, b, c, d⟩) ?_
                      refine HeadE.take 4 (.int .i64 ((k : Int) + 1)) rfl (by kernel_rfl) (.inl ⟨rfl, fun w2 _ => by go_simp⟩) (by obtain ⟨a, b, c, d, -⟩ := cells4T H0.out; exact ⟨a, b, c, d⟩) ?_
                      refine HeadE.take 5 (.slice (some ⟨b, o + k * 6, none⟩) 1 (vc - k)) rfl (by kernel_rfl) (.inl ⟨rfl, fun w2 _ => by go_simp⟩) (by obtain ⟨a, b, c, d, -⟩ := cells4T H0.out; exact ⟨a, b, c, d⟩) ?_
                      refine HeadE.all (rs := [6, 10]) (by kernel_rfl) (by simp) ?_
                      intro i hi
                      rcases List.mem_cons.1 hi with rfl | hi
                      · clear hi
                        refine wpOp_call rfl rfl 17 #[.agg #[.int .i64 tv.own, .int .i64 tv.next, .slice sav tv.seen.length scv, .slice lav tv.late.length lcv], .slice (some ⟨b, o + k * 6, none⟩) 1 (vc - k)] (by go_simp) (Had0.out V0 HB.out) ?_
                        rintro e Ve1 ⟨vt', vs', rfl, htok, hsls, hbA⟩
                        obtain ⟨sa', sc', la', lc', rfl, -, -⟩ := htok.tok
                        obtain ⟨qa', qc', rfl⟩ := hsls.sls.form
                        replace htok := htok.mono (K' := fun k => V0.heap.size ≤ k ∧ k < Ve1.heap.size) fun k h1 h2 => ⟨h2, h1⟩
                        replace hsls := slsS_mono hsls (K' := fun k => V0.heap.size ≤ k ∧ k < Ve1.heap.size) fun k h1 h2 => ⟨h2, h1⟩
                        have hlo := HB.out.size
                        have hzA := hbA.size
                        replace H0 := hide (keepB H0.out hbA)
                        replace HB := hide (HB.out.trans (hbA.mono HB.out.size))
                        have Htok := hide htok
                        have Hsls := hide hsls
                        clear htok hsls hbA
                        refine ⟨_, rfl, ?_, ?_⟩
                        · exact by obtain ⟨a, b, c, d, -⟩ := cells4T H0.out; exact ⟨a, b, c, d⟩
                        refine HeadE.take 7 (.tuple #[.agg #[.int .i64 tn.own, .int .i64 tn.next, .slice sa' tn.seen.length sc', .slice la' tn.late.length lc'], .slice qa' L.length qc']) rfl (by kernel_rfl) (.inl ⟨rfl, fun w2 _ => by go_simp⟩) (by obtain ⟨a, b, c, d, -⟩ := cells4T H0.out; exact ⟨a, b, c, d⟩) ?_
                        refine HeadE.take 8 (.agg #[.int .i64 tn.own, .int .i64 tn.next, .slice sa' tn.seen.length sc', .slice la' tn.late.length lc']) rfl (by kernel_rfl) (.inl ⟨rfl, fun w2 _ => by go_simp⟩) (by obtain ⟨a, b, c, d, -⟩ := cells4T H0.out; exact ⟨a, b, c, d⟩) ?_
                        refine HeadE.take 9 (.slice qa' L.length qc') rfl (by kernel_rfl) (.inl ⟨rfl, fun w2 _ => by go_simp⟩) (by obtain ⟨a, b, c, d, -⟩ := cells4T H0.out; exact ⟨a, b, c, d⟩) ?_
                        refine HeadE.only 10 (by kernel_rfl) ?_
                        refine wpOp_val rfl rfl (v := .pointer (some ⟨Ve1.heap.size, 0, none⟩)) (w' := Ve1.alloc (.cells #[.int .i64 0, .int .i64 0, .slice none 0 0, .slice none 0 0] 26)) (by go_simp) ?_
                        have hb2 := box_below Ve1 (.cells #[.int .i64 0, .int .i64 0, .slice none 0 0, .slice none 0 0] 26)
                        have X10 := hide (World.alloc_heap_new Ve1 (.cells #[.int .i64 0, .int .i64 0, .slice none 0 0, .slice none 0 0] 26))
                        have hz2 : Ve1.heap.size < (Ve1.alloc (.cells #[.int .i64 0, .int .i64 0, .slice none 0 0, .slice none 0 0] 26)).heap.size := by simp
                        generalize Ve1.alloc (.cells #[.int .i64 0, .int .i64 0, .slice none 0 0, .slice none 0 0] 26) = Ve2 at *
                        replace H0 := hide (keepB H0.out hb2)
                        replace HB := hide (HB.out.trans (hb2.mono HB.out.size))
                        replace Htok := hide (Htok.out.new hb2)
                        replace Hsls := hide (Hsls.out.new hb2)
                        clear hb2
                        refine ⟨by obtain ⟨a, b, c, d, -⟩ := cells4T H0.out; exact ⟨a, b, c, d⟩, ?_⟩
                        refine HeadE.only 11 (by kernel_rfl) ?_
                        have hub : Ve1.heap.size < V0.heap.size ∨ Ve1.heap.size ≤ Ve1.heap.size := by omega
                        have hvu : V0.heap.size ≤ Ve1.heap.size := by omega
                        have hne : tb ≠ Ve1.heap.size := by have := Htb.out; omega
                        obtain ⟨x0, x1, x2, x3, f0, f1, f2, f3⟩ := cells4T X10.out
                        refine wpOp_skip rfl rfl (w' := put4T Ve2 (Ve1.heap.size) (.int .i64 tn.own) (.int .i64 tn.next) (.slice sa' tn.seen.length sc') (.slice la' tn.late.length lc')) (by unfold put4T; go_simp) ?_
                        have hst := put4T_heap X10.out (.int .i64 tn.own) (.int .i64 tn.next) (.slice sa' tn.seen.length sc') (.slice la' tn.late.length lc')
                        have htk := (Htok.out.mono (K' := fun k => V0.heap.size ≤ k ∧ k ≠ Ve1.heap.size) fun k h1 h2 => ⟨by omega, by omega⟩).touch (put4T_touch (S := fun k => k = Ve1.heap.size) Ve2 rfl (.int .i64 tn.own) (.int .i64 tn.next) (.slice sa' tn.seen.length sc') (.slice la' tn.late.length lc')) fun k h => h.2
                        have hsl := (slsS_mono Hsls.out (K' := fun k => V0.heap.size ≤ k ∧ k ≠ Ve1.heap.size) fun k h1 h2 => ⟨by omega, by omega⟩).touch (put4T_touch (S := fun k => k = Ve1.heap.size) Ve2 rfl (.int .i64 tn.own) (.int .i64 tn.next) (.slice sa' tn.seen.length sc') (.slice la' tn.late.length lc')) fun k h => h.2
                        have hbl := put4T_below HB.out hvu (.int .i64 tn.own) (.int .i64 tn.next) (.slice sa' tn.seen.length sc') (.slice la' tn.late.length lc')
                        have h0' := (put4T_other tb hne (.int .i64 tn.own) (.int .i64 tn.next) (.slice sa' tn.seen.length sc') (.slice la' tn.late.length lc')).trans H0.out
                        clear x0 x1 x2 x3 f0 f1 f2 f3
                        generalize put4T Ve2 (Ve1.heap.size) (.int .i64 tn.own) (.int .i64 tn.next) (.slice sa' tn.seen.length sc') (.slice la' tn.late.length lc') = VE at *
                        replace H0 := hide h0'
                        refine ⟨by obtain ⟨a, b, c, d, -⟩ := cells4T H0.out; exact ⟨a, b, c, d⟩, ?_⟩
                        refine HeadE.fin (by kernel_rfl) ?_
                        refine onlyA 12 (by kernel_rfl) ?_
                        refine wpOp_val rfl rfl (v := .slice qa' L.length qc') (w' := VE) (by go_simp) ?_
                        refine endA (by kernel_rfl) ?_
                        go_simp
                        go_step
                        go_meet
                        exact ⟨_, sa', sc', la', lc', qa', qc', rfl, rfl, Hz0.out ▸ hvu, hst, Hz0.out ▸ htk, Hz0.out ▸ hsl, Hbd.out.trans (Hz0.out ▸ hbl)⟩
                      · obtain rfl : i = 10 := by simpa using hi
                        clear hi
                        refine wpOp_val rfl rfl (v := .pointer (some ⟨V0.heap.size, 0, none⟩)) (w' := V0.alloc (.cells #[.int .i64 0, .int .i64 0, .slice none 0 0, .slice none 0 0] 26)) (by go_simp) ?_
                        have hb3 := box_below V0 (.cells #[.int .i64 0, .int .i64 0, .slice none 0 0, .slice none 0 0] 26)
                        have X10 := hide (World.alloc_heap_new V0 (.cells #[.int .i64 0, .int .i64 0, .slice none 0 0, .slice none 0 0] 26))
                        have hz3 : V0.heap.size < (V0.alloc (.cells #[.int .i64 0, .int .i64 0, .slice none 0 0, .slice none 0 0] 26)).heap.size := by simp
                        generalize V0.alloc (.cells #[.int .i64 0, .int .i64 0, .slice none 0 0, .slice none 0 0] 26) = Ve3 at *
                        replace H0 := hide (keepB H0.out hb3)
                        replace HB := hide (HB.out.trans (hb3.mono HB.out.size))
                        clear hb3
                        refine ⟨by obtain ⟨a, b, c, d, -⟩ := cells4T H0.out; exact ⟨a, b, c, d⟩, ?_⟩
                        refine HeadE.only 6 (by kernel_rfl) ?_
                        refine wpOp_call rfl rfl 17 #[.agg #[.int .i64 tv.own, .int .i64 tv.next, .slice sav tv.seen.length scv, .slice lav tv.late.length lcv], .slice (some ⟨b, o + k * 6, none⟩) 1 (vc - k)] (by go_simp) (Had0.out Ve3 HB.out) ?_
                        rintro e Ve4 ⟨vt', vs', rfl, htok, hsls, hbA⟩
                        obtain ⟨sa', sc', la', lc', rfl, -, -⟩ := htok.tok
                        obtain ⟨qa', qc', rfl⟩ := hsls.sls.form
                        replace htok := htok.mono (K' := fun k => Ve3.heap.size ≤ k ∧ k < Ve4.heap.size) fun k h1 h2 => ⟨h2, h1⟩
                        replace hsls := slsS_mono hsls (K' := fun k => Ve3.heap.size ≤ k ∧ k < Ve4.heap.size) fun k h1 h2 => ⟨h2, h1⟩
                        have hlo := HB.out.size
                        have hzA := hbA.size
                        replace H0 := hide (keepB H0.out hbA)
                        replace X10 := hide (keepB X10.out hbA)
                        replace HB := hide (HB.out.trans (hbA.mono HB.out.size))
                        have Htok := hide htok
                        have Hsls := hide hsls
                        clear htok hsls hbA
                        refine ⟨_, rfl, ?_, ?_⟩
                        · exact by obtain ⟨a, b, c, d, -⟩ := cells4T H0.out; exact ⟨a, b, c, d⟩
                        refine HeadE.take 7 (.tuple #[.agg #[.int .i64 tn.own, .int .i64 tn.next, .slice sa' tn.seen.length sc', .slice la' tn.late.length lc'], .slice qa' L.length qc']) rfl (by kernel_rfl) (.inl ⟨rfl, fun w2 _ => by go_simp⟩) (by obtain ⟨a, b, c, d, -⟩ := cells4T H0.out; exact ⟨a, b, c, d⟩) ?_
                        refine HeadE.take 8 (.agg #[.int .i64 tn.own, .int .i64 tn.next, .slice sa' tn.seen.length sc', .slice la' tn.late.length lc']) rfl (by kernel_rfl) (.inl ⟨rfl, fun w2 _ => by go_simp⟩) (by obtain ⟨a, b, c, d, -⟩ := cells4T H0.out; exact ⟨a, b, c, d⟩) ?_
                        refine HeadE.take 9 (.slice qa' L.length qc') rfl (by kernel_rfl) (.inl ⟨rfl, fun w2 _ => by go_simp⟩) (by obtain ⟨a, b, c, d, -⟩ := cells4T H0.out; exact ⟨a, b, c, d⟩) ?_
                        refine HeadE.only 11 (by kernel_rfl) ?_
                        have hub : V0.heap.size < Ve3.heap.size ∨ Ve4.heap.size ≤ V0.heap.size := by omega
                        have hvu : V0.heap.size ≤ V0.heap.size := Nat.le_refl _
                        have hva : V0.heap.size ≤ Ve3.heap.size := by omega
                        have hne : tb ≠ V0.heap.size := by have := Htb.out; omega
                        obtain ⟨x0, x1, x2, x3, f0, f1, f2, f3⟩ := cells4T X10.out
                        refine wpOp_skip rfl rfl (w' := put4T Ve4 (V0.heap.size) (.int .i64 tn.own) (.int .i64 tn.next) (.slice sa' tn.seen.length sc') (.slice la' tn.late.length lc')) (by unfold put4T; go_simp) ?_
                        have hst := put4T_heap X10.out (.int .i64 tn.own) (.int .i64 tn.next) (.slice sa' tn.seen.length sc') (.slice la' tn.late.length lc')
                        have htk := (Htok.out.mono (K' := fun k => V0.heap.size ≤ k ∧ k ≠ V0.heap.size) fun k h1 h2 => ⟨by omega, by omega⟩).touch (put4T_touch (S := fun k => k = V0.heap.size) Ve4 rfl (.int .i64 tn.own) (.int .i64 tn.next) (.slice sa' tn.seen.length sc') (.slice la' tn.late.length lc')) fun k h => h.2
                        have hsl := (slsS_mono Hsls.out (K' := fun k => V0.heap.size ≤ k ∧ k ≠ V0.heap.size) fun k h1 h2 => ⟨by omega, by omega⟩).touch (put4T_touch (S := fun k => k = V0.heap.size) Ve4 rfl (.int .i64 tn.own) (.int .i64 tn.next) (.slice sa' tn.seen.length sc') (.slice la' tn.late.length lc')) fun k h => h.2
                        have hbl := put4T_below HB.out hvu (.int .i64 tn.own) (.int .i64 tn.next) (.slice sa' tn.seen.length sc') (.slice la' tn.late.length lc')
                        have h0' := (put4T_other tb hne (.int .i64 tn.own) (.int .i64 tn.next) (.slice sa' tn.seen.length sc') (.slice la' tn.late.length lc')).trans H0.out
                        clear x0 x1 x2 x3 f0 f1 f2 f3
                        generalize put4T Ve4 (V0.heap.size) (.int .i64 tn.own) (.int .i64 tn.next) (.slice sa' tn.seen.length sc') (.slice la' tn.late.length lc') = VE at *
                        replace H0 := hide h0'
                        refine ⟨by obtain ⟨a, b, c, d, -⟩ := cells4T H0.out; exact ⟨a, b, c, d⟩, ?_⟩
                        refine HeadE.fin (by kernel_rfl) ?_
                        refine onlyA 12 (by kernel_rfl) ?_
                        refine wpOp_val rfl rfl (v := .slice qa' L.length qc') (w' := VE) (by go_simp) ?_
                        refine endA (by kernel_rfl) ?_
                        go_simp
                        go_step
                        go_meet
                        exact ⟨_, sa', sc', la', lc', qa', qc', rfl, rfl, Hz0.out ▸ hvu, hst, Hz0.out ▸ htk, Hz0.out ▸ hsl, Hbd.out.trans (Hz0.out ▸ hbl)⟩
                    case rest =>
                      clear Had
                      obtain ⟨ub2, sa', sc', la', lc', qa', qc', rfl, rfl, hzu, hub2, htk, hsl, hbc⟩ := hcut
                      have hne1 : vb ≠ ub2 := by omega
                      have hne2 : ub2 ≠ vb := by omega
                      have H0c := hide (keepB H0.out (hz ▸ hbc))
                      have Hbw := hide (HbW.out.trans (hbc.mono (by omega)))
                      have Htk := hide htk
                      obtain ⟨x0, x1, x2, x3, -⟩ := cells4T hub2
                      obtain ⟨y0, y1, y2, y3, f0, f1, f2, f3⟩ := cells4T H0c.out
                      clear htk hsl hub2 hbc
                      go_wp2_with fail
                      have hT : TokAt (put4T wc vb (.int .i64 tn.own) (.int .i64 tn.next) (.slice sa' tn.seen.length sc') (.slice la' tn.late.length lc')) vb tn := ⟨_, _, put4T_heap H0c.out _ _ _ _, (Htk.out.touch (put4T_touch (S := fun k => k = vb) wc rfl _ _ _ _) fun k h => by omega).mono fun k _ h => by omega⟩
                      refine ⟨⟨k + 1, tn, N + L.length, by omega, by go_num, by go_num, by omega, Hs1.out, by have := Hs2.out; omega, Hwf2.out.mono (by omega) (by omega), hT, put4T_below Hbw.out (Nat.le_refl _) _ _ _ _⟩, by simp [intOf]; omega⟩
                  · have hkl : k = l.length := by omega
                    subst hkl
                    rw [List.drop_length] at Hs1 Hs2
                    have e1 : tv = (splitT ⟨own, next, seen, late⟩ l).1 := Hs1.out
                    have e2 : N = (splitT ⟨own, next, seen, late⟩ l).2 := by have := Hs2.out; simpa [splitT] using this
                    by_cases hl0 : (l.length : Int) = 0
                    · go_wp2_with fail
                      go_ret
                      exact ⟨rfl, HX2.out.below.trans (HbW.out.mono (by omega))⟩
                    obtain ⟨p1, p2, p3, p4⟩ := Hpl.out (fun e => hl0 (by rw [e]; rfl)) Htold.out
                    rw [← e2] at p1
                    rw [← e1] at p2 p3 p4
                    clear e1 e2
                    have hu2 := (HbW.out.block ub hub).trans Hu.out
                    obtain ⟨x0, x1, x2, x3, -⟩ := cells4T hu2
                    obtain ⟨y0, y1, y2, y3, -⟩ := cells4T H0.out
                    rw [p3] at x1
                    rw [p4] at x3
                    obtain ⟨_, _, _, _, he, hnv, -⟩ := HS.out.tok
                    simp only [Value.agg.injEq, Array.mk.injEq, List.cons.injEq, and_true, true_and, Value.slice.injEq] at he
                    obtain ⟨⟨rfl, rfl⟩, -⟩ := he
                    have CS := hide (refSame_calls _ _ tu.seen tv.seen wr (Hnu.out.below (HVb.out ▸ HbW.out)) hnv (by omega) (by have := Hwf.out.seen.len; omega))
                    rw [p2] at CS
                    have hlb : (l.length : Int) ≠ 0 := hl0
                    have P1 := hide p1.symm
                    clear p1 p2 p3 p4 hnv hu2
                    rw [P1.out]
                    have HBE := hide (HX2.out.below.trans (HbW.out.mono (by omega)))
                    go_upto_region 36 with fail
                    go_wp2_with fail
                    refine CS.out.mono ?_
                    rintro e w9 ⟨rfl, rfl⟩
                    go_wp2_with fail
                    go_ret
                    exact ⟨rfl, HBE.out⟩

end Go.Proofs.Ytdkpbfigjdmfpaa
