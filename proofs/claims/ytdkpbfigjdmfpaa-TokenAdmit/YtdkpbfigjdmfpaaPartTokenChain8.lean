/- Own work: the parts TK9 of the proof, laid together. -/
import Derived.Test.YtdkpbfigjdmfpaaPartTokenChain6
import Derived.Test.YtdkpbfigjdmfpaaPartTokenChain7
import Derived.Deep.LoopGhost
import Derived.WalkMore
/- token's Admit. Own work; no statement. -/
set_option linter.unusedSimpArgs false
set_option linter.unusedVariables false
namespace Go.Proofs.Ytdkpbfigjdmfpaa
open Go.RowKit Go.Shelf Go.Sort

/-- What Admit has under way: the token in its block, what is left, the slots. -/
structure AdmSt (w wr : World) (own next : Int) (sv : Value) (s : List Int) (lt : Value) (lv : Value) (ql : List Dv) (tv : Value) (sl : List Sv) : Prop where
  below : RowKit.Below w.heap.size w wr
  size : w.heap.size + 2 ≤ wr.heap.size
  tok : wr.heap[w.heap.size]? = some (.cells #[.int .i64 own, .int .i64 next, sv, lt] 26 (0, 0))
  res : wr.heap[w.heap.size + 1]? = some (.cells #[.int .i64 0, .int .i64 0, .slice none 0 0, .slice none 0 0] 26 (0, 0))
  seen : wr.ownsRow (w.heap.size + 2) 3 1 sv s.length (s.map (Value.int .i64))
  left : LeftD wr (w.heap.size + 2) lv ql
  nums : ∀ q ∈ ql, IsNums .i64 w q.vd q.d.r.dep
  slots : wr.ownsRow (w.heap.size + 2) 58 7 tv sl.length (sl.flatMap Sv.cells)
  deps : ∀ x ∈ sl, wr.ownsRow (w.heap.size + 2) 3 1 x.q.vd x.q.d.r.dep.length (x.q.d.r.dep.map (Value.int .i64))
section
variable {w wr w' : World} {own next : Int} {sv : Value} {s : List Int} {lt lv : Value} {ql : List Dv} {tv : Value} {sl : List Sv}
theorem AdmSt.new (h : AdmSt w wr own next sv s lt lv ql tv sl) (hb : RowKit.Below wr.heap.size wr w') : AdmSt w w' own next sv s lt lv ql tv sl :=
  ⟨h.below.trans (hb.mono h.below.size), by have := hb.size; have := h.size; omega, keepB h.tok hb, keepB h.res hb, own_below h.seen hb, h.left.new hb, h.nums, own_below h.slots hb, fun x hx => own_below (h.deps x hx) hb⟩
/-- The token's block is written. -/
theorem AdmSt.store (h : AdmSt w wr own next sv s lt lv ql tv sl) (next' : Int) (sv' : Value) (s' : List Int) (hs : wr.ownsRow (w.heap.size + 2) 3 1 sv' s'.length (s'.map (Value.int .i64))) :
    AdmSt w (put4T wr w.heap.size (.int .i64 own) (.int .i64 next') sv' lt) own next' sv' s' lt lv ql tv sl := by
  have hz := h.size
  have ho : ∀ k, k ≠ w.heap.size → (put4T wr w.heap.size (.int .i64 own) (.int .i64 next') sv' lt).heap[k]? = wr.heap[k]? := fun k hk => put4T_other k hk _ _ _ _
  refine ⟨put4T_below h.below (Nat.le_refl _) _ _ _ _, by simpa [put4T] using hz, put4T_heap h.tok _ _ _ _, (ho _ (by omega)).trans h.res, ownsRow_of_heap hs fun k e => ho k (by have := (hs.lt k e).1; omega), h.left.of_heap fun k e => ho k (by have := (h.left.lt k e).1; omega), h.nums, ownsRow_of_heap h.slots fun k e => ho k (by have := (h.slots.lt k e).1; omega), fun x hx => ownsRow_of_heap (h.deps x hx) fun k e => ho k (by have := ((h.deps x hx).lt k e).1; omega)⟩
/-- A slot more. -/
theorem AdmSt.add (h : AdmSt w wr own next sv s lt lv ql tv sl) {o : Obj} {tv' : Value} {x : Sv} (hd : wr.ownsRow (w.heap.size + 2) 3 1 x.q.vd x.q.d.r.dep.length (x.q.d.r.dep.map (Value.int .i64)))
    (hown : w'.ownsRow (w.heap.size + 2) 58 7 tv' (sl.length + 1) (sl.flatMap Sv.cells ++ x.cells)) (hgrow : (wr.alloc o).grownBy w' tv.ownBlock) : AdmSt w w' own next sv s lt lv ql tv' (sl ++ [x]) := by
  have hz := h.size
  have hks : ∀ k, k < wr.heap.size → tv.ownBlock ≠ some k → w'.heap[k]? = wr.heap[k]? := fun k hk hn => (hgrow.block k (by simp; omega) (fun e => hn e.symm)).trans (Below.heap_alloc _ _ _ hk)
  have keep : ∀ {v n xs}, wr.ownsRow (w.heap.size + 2) 3 1 v n xs → w'.ownsRow (w.heap.size + 2) 3 1 v n xs := fun hr =>
    ownsRow_of_heap hr fun k hk => hks k (hr.lt k hk).2 (rows_apart (by decide) hr h.slots k hk)
  refine ⟨(h.below.alloc (by omega) o).grown hgrow (by simp; omega) (fun j hj => by have := (h.slots.lt j hj).1; omega), by have := hgrow.size; simp at this; omega, (hks _ (by omega) (fun e => by have := (h.slots.lt _ e).1; omega)).trans h.tok, (hks _ (by omega) (fun e => by have := (h.slots.lt _ e).1; omega)).trans h.res, keep h.seen, ?_, h.nums, by rw [List.length_append, List.flatMap_append]; simpa using hown, fun y hy => ?_⟩
  · refine h.left.of_heap fun k hk => hks k (h.left.lt k hk).2 fun e => ?_
    rcases h.slots.2 with ⟨rfl, _⟩ | ⟨g, cap, cur, rfl, _, hg, _⟩
    · cases e
    · obtain rfl : g = k := by simpa [Value.ownBlock] using e
      exact h.left.not hg (by decide) hk
  · rcases List.mem_append.1 hy with hy | hy
    · exact keep (h.deps y hy)
    · rw [List.mem_singleton.1 hy]
      exact keep hd
/-- One of what is left is taken away. -/
theorem AdmSt.take (h : AdmSt w wr own next sv s lt lv ql tv sl) {lv' : Value} {ql' : List Dv} (hl : LeftD w' (w.heap.size + 2) lv' ql') (hq : ∀ q ∈ ql', q ∈ ql) (ht : Touch (fun k => lv.ownBlock = some k) wr w') : AdmSt w w' own next sv s lt lv' ql' tv sl := by
  have hz := h.size
  have keep : ∀ {e sz v n xs}, e ≠ 41 → wr.ownsRow (w.heap.size + 2) e sz v n xs → w'.ownsRow (w.heap.size + 2) e sz v n xs := fun he hr =>
    ownsRow_of_heap hr fun k hk => ht.block k (hr.lt k hk).2 fun e => by
      rcases hr.2 with ⟨rfl, _⟩ | ⟨g, cap, cur, rfl, _, hg, _⟩
      · cases hk
      · obtain rfl : g = k := by simpa [Value.ownBlock] using hk
        exact h.left.not hg he e
  have hlow : ∀ k, lv.ownBlock = some k → w.heap.size + 2 ≤ k := fun k e => (h.left.lt k e).1
  exact ⟨h.below.trans (ht.below h.below.size fun k _ e => by have := hlow k e; omega), by have := ht.size; omega, (ht.block _ (by omega) (fun e => by have := hlow _ e; omega)).trans h.tok, (ht.block _ (by omega) (fun e => by have := hlow _ e; omega)).trans h.res, keep (by decide) h.seen, hl, fun q hq' => h.nums q (hq q hq'), keep (by decide) h.slots, fun x hx => keep (by decide) (h.deps x hx)⟩
/-- A box of another block is written. -/
theorem AdmSt.box (h : AdmSt w wr own next sv s lt lv ql tv sl) {b : Nat} {c : Array Value} {f : Nat × Nat} (hc : wr.heap[b]? = some (.cells c 58 f)) (hb : w.heap.size + 2 ≤ b) (hne : tv.ownBlock ≠ some b) (ht : Touch (fun k => k = b) wr w') : AdmSt w w' own next sv s lt lv ql tv sl := by
  have hz := h.size
  have keep : ∀ {v n xs}, wr.ownsRow (w.heap.size + 2) 3 1 v n xs → w'.ownsRow (w.heap.size + 2) 3 1 v n xs := fun hr =>
    ownsRow_of_heap hr fun k hk => ht.block k (hr.lt k hk).2 fun e => row_not hr hc (by decide) (by rw [← e, hk])
  exact ⟨h.below.trans (ht.below h.below.size fun k _ e => by omega), by have := ht.size; omega, (ht.block _ (by omega) (by omega)).trans h.tok, (ht.block _ (by omega) (by omega)).trans h.res, keep h.seen, h.left.of_heap fun k hk => ht.block k (h.left.lt k hk).2 (fun e => h.left.not hc (by decide) (by rw [← e]; exact hk)), h.nums, ownsRow_of_heap h.slots fun k hk => ht.block k (h.slots.lt k hk).2 (fun e => hne (by rw [← e]; exact hk)), fun x hx => keep (h.deps x hx)⟩
/-- The token, read. -/
theorem AdmSt.isTok (h : AdmSt w wr own next sv s lt lv ql tv sl) {late : List DrD} (hl : IsDrs w lt late) : IsTok wr (.agg #[.int .i64 own, .int .i64 next, sv, lt]) ⟨own, next, s, late⟩ := by
  obtain ⟨sa, sc, rfl⟩ := ownsRow_slice h.seen
  obtain ⟨la, lc, rfl⟩ := hl.form
  exact ⟨sa, sc, la, lc, rfl, IsNums.of_row h.seen, hl.below h.below⟩
end

theorem map_erase {α β : Type} (f : α → β) : ∀ (l : List α) (k : Nat), (l.eraseIdx k).map f = (l.map f).eraseIdx k
  | [], k => by simp
  | x :: l, 0 => by simp
  | x :: l, k + 1 => by simp [map_erase f l k]
theorem putT_form (own : Int) (s : List Int) (d : DrD) : putT own s d = ⟨d.ticket, ⟨d.r.site, (putT own s d).r.seq, d.r.dep, d.r.key, d.r.val⟩⟩ := by
  unfold putT
  split <;> rfl

set_option maxHeartbeats 4000000 in
set_option maxRecDepth 100000 in
theorem admit_calls (vt vl : Value) (t : TokD) (m : List DrD) (w : World) (ht : IsTok w vt t) (hl : IsDrs w vl m) (hs : SeenOk t.seen) (hok : ∀ d ∈ t.late ++ m, DrOk d) (hlen : t.late.length + m.length ≤ 1048576) (hx : 0 ≤ t.next ∧ t.next ≤ 1099511627776) :
    Calls Try.prog 17 #[vt, vl] w fun e w' => ∃ vt' vs, e = .returned (.tuple #[vt', vs]) ∧ TokS (fun k => w.heap.size ≤ k) w' vt' (admitT t m).1 ∧ SlsS (fun k => w.heap.size ≤ k) w' vs (admitT t m).2 ∧ RowKit.Below w.heap.size w w' := by
  obtain ⟨i0, hi0, hz0, hz1, hz2⟩ := info_parts Try.info58
  obtain ⟨own, next, seen, late⟩ := t
  obtain ⟨sa, sc, la, lc, rfl, hn, hlate⟩ := ht
  dsimp only at *
  obtain ⟨va, vc, rfl⟩ := hl.form
  obtain ⟨xs, rfl, hxr, hxn⟩ := hlate.rd
  obtain ⟨ys, rfl, hyr, hyn⟩ := hl.rd
  have hxv : ∀ q ∈ xs, ∃ a n c, q.vd = .slice a n c := fun q hq => let ⟨a, c, e⟩ := (hxn q hq).form; ⟨a, _, c, e⟩
  have hyv : ∀ q ∈ ys, ∃ a n c, q.vd = .slice a n c := fun q hq => let ⟨a, c, e⟩ := (hyn q hq).form; ⟨a, _, c, e⟩
  rw [List.length_map, List.length_map] at hlen
  rw [List.length_map] at hxr hyr ⊢
  rw [List.length_map]
  clear hl hlate
  have hlx : xs.length ≤ 1048576 := by omega
  have hly : ys.length ≤ 1048576 := by omega
  obtain ⟨W0, hW0, hsz, hB0, h0, h1⟩ := new2T w #[.int .i64 own, .int .i64 next, .slice sa seen.length sc, .slice la xs.length lc] #[.int .i64 0, .int .i64 0, .slice none 0 0, .slice none 0 0] 26 26
  have hBx := box_below W0 (.cells #[.slice la xs.length lc, .slice va ys.length vc] 24)
  have hnx := World.alloc_heap_new W0 (.cells #[.slice la xs.length lc, .slice va ys.length vc] 24)
  obtain ⟨W1, hW1⟩ : ∃ W1, W0.alloc (.cells #[.slice la xs.length lc, .slice va ys.length vc] 24) = W1 := ⟨_, rfl⟩
  rw [hW1] at hBx hnx
  have hB1 := hB0.trans (hBx.mono hB0.size)
  have hl2 : seen.length ≤ 1048576 := hs.len
  have hws : W1.heap.size = W0.heap.size + 1 := by rw [← hW1]; simp
  have C1 := hide (drConcat_calls _ _ xs ys W0.heap.size W1 (hxr.below hB1) (hyr.below hB1) hxv hyv (by omega) (by simpa using cellsAt hnx 0) (by simpa using cellsAt hnx 1))
  obtain ⟨t0, t1, t2, t3, -, -, -, -⟩ := cells4T h0
  have H0 := hide (keepB h0 hBx)
  have H1 := hide (keepB h1 hBx)
  have HW0 := hide hW0
  have HW1 := hide hW1
  have Hsz := hide hsz
  have Hws := hide hws
  clear hsz hws
  have HB1 := hide hB1
  have Hn := hide hn
  have Hx := hide hxn
  have Hy := hide hyn
  have Hlate := hide (hxr.drs hxn)
  have Hok := hide hok
  have Hs := hide hs
  clear hW0 hW1 hB0 h0 h1 hBx hnx hB1 hn hxr hyr hxn hyn hxv hyv hok hs
  go_enter Try.func17, Try.ntmps17
  go_wp2_with fail
  rw [HW0.out]
  go_step3
  go_wp2_with fail
  rw [HW1.out]
  refine C1.out.mono ?_
  rintro e w2 ⟨lv, rfl, hleft, hb2⟩
  have hB2 := HB1.out.trans (hb2.mono HB1.out.size)
  have k0 := keepB H0.out hb2
  have k1 := keepB H1.out hb2
  have hs2 := hb2.size
  have hsz := Hsz.out
  have hws := Hws.out
  obtain ⟨lva, lvc, rfl⟩ := ownsRow_slice hleft
  have C2 := hide (cloneVec_calls _ seen w2 (Hn.out.below hB2) (by omega))
  obtain ⟨t0, t1, t2, t3, f0, f1, f2, f3⟩ := cells4T k0
  have K0 := hide k0
  have K1 := hide k1
  have Hleft := hide hleft
  have HB2 := hide hB2
  clear C1 H0 H1 HW0 HW1 HB1 hb2 k0 k1 hleft hB2
  go_wp2_with fail
  refine C2.out.mono ?_
  rintro e w3 ⟨sv, rfl, hseen, hb3⟩
  obtain ⟨sva, svc, rfl⟩ := ownsRow_slice hseen
  have k0 := keepB K0.out hb3
  have k1 := keepB K1.out hb3
  have hB3 := HB2.out.trans (hb3.mono HB2.out.size)
  have hleft := own_below Hleft.out hb3
  have hs3 := hb3.size
  obtain ⟨t0, t1, t2, t3, f0, f1, f2, f3⟩ := cells4T k0
  have hst : AdmSt w (w3.setCell ⟨w.heap.size, 2, none⟩ (.slice sva seen.length svc)) own next (.slice sva seen.length svc) seen (.slice la xs.length lc) (.slice lva (xs ++ ys).length lvc) (xs ++ ys) (.slice none 0 0) [] := by
    have ho : ∀ k, k ≠ w.heap.size → (w3.setCell ⟨w.heap.size, 2, none⟩ (.slice sva seen.length svc)).heap[k]? = w3.heap[k]? := fun k hk => Below.heap_setCell _ _ _ _ hk
    refine ⟨hB3.setCell (p := ⟨w.heap.size, 2, none⟩) (Nat.le_refl _) _, by simp; omega, by simpa using setAt (j := 2) k0 (.slice sva seen.length svc), (ho _ (by omega)).trans k1, ownsRow_low (ownsRow_of_heap hseen fun k e => ho k (by have := (hseen.lt k e).1; omega)) (by omega), .of_row (ownsRow_low (ownsRow_of_heap hleft fun k e => ho k (by have := (hleft.lt k e).1; omega)) (by omega)), fun q hq => ?_, World.ownsRow_nil _ _ _ _, fun x hx => by cases hx⟩
    rcases List.mem_append.1 hq with hq | hq
    · exact Hx.out q hq
    · exact Hy.out q hq
  have Hst := hide hst
  clear hst C2 K0 K1 Hleft HB2 hb3 k0 k1 hB3 hleft hseen
  go_upto_region 3 with fail
  generalize w3.setCell ⟨w.heap.size, 2, none⟩ (.slice sva seen.length svc) = w4 at *
  clear t0 t1 t2 t3 f0 f1 f2 f3
  go_wp2_with fail
  go_step3
  go_upto_region 4 with fail
  go_loopg [6, 7] (xs ++ ys).length (fun g l6 l7 wr => ∃ (ql : List Dv) (sl : List Sv) (s : List Int) (nx : Int) (sv : Value) (put : List DrD), ql.length ≤ g ∧ AdmSt w wr own nx sv s (.slice la xs.length lc) l6 ql l7 sl ∧ AdmP own next seen ((xs ++ ys).map (·.d)) nx s (ql.map (·.d)) (sl.map Sv.dat) put)
  case atStart => exact ⟨xs ++ ys, [], seen, next, _, [], Nat.le_refl _, by simpa using Hst.out, AdmP.start Hs.out (by simpa using Hok.out)⟩
  case round =>
    clear Hst
    obtain ⟨ql, sl, s, nx, sv, put, hg, hst, hp⟩ := hrel
    obtain ⟨qa, qc, rfl⟩ := hst.left.form
    obtain ⟨ta, tc, rfl⟩ := ownsRow_slice hst.slots
    obtain ⟨va', vc', rfl⟩ := ownsRow_slice hst.seen
    have hql : ql.length ≤ 1048576 := by
      have h2 := hp.count
      simp only [List.length_map, List.length_append] at h2
      omega
    have hsl0 : sl.length ≤ 1048576 := by
      have h2 := hp.count
      have h3 := congrArg List.length hp.slots
      rw [slotsT_length] at h3
      simp only [List.length_map, List.length_append] at h2 h3
      omega
    have Hp := hide hp
    have Hst := hide hst
    clear hst hp
    go_wp2_with fail
    go_loopg [6, 7, 22] ql.length (fun g2 l6 l7 i wx => ∃ k : Nat, k + g2 = ql.length ∧ i = .int .i64 (k : Int) ∧ l6 = .slice qa ql.length qc ∧ l7 = .slice ta sl.length tc ∧ AdmSt w wx own nx (.slice va' s.length vc') s (.slice la xs.length lc) (.slice qa ql.length qc) ql (.slice ta sl.length tc) sl ∧ ∀ j (hj : j < ql.length), j < k → mayD own s ql[j].d = false)
    case atStart => exact ⟨0, by omega, rfl, rfl, rfl, Hst.out, fun j _ h => by omega⟩
    case round =>
      clear Hst
      obtain ⟨k, hkg, rfl, rfl, rfl, hst, hno⟩ := hrel
      have Hkg := hide hkg
      have Hno := hide hno
      have Hst := hide hst
      clear hkg hno hst
      by_cases hlt : k < ql.length
      · have hltI : (k : Int) < (ql.length : Int) := by omega
        obtain ⟨qa', qc', hqe, -, -, hat⟩ := Hst.out.left.rd
        simp only [Value.slice.injEq, true_and] at hqe
        obtain ⟨rfl, rfl⟩ := hqe
        obtain ⟨b, o, rfl, hc⟩ := hat k hlt
        have hnk := Hst.out.nums ql[k] (List.getElem_mem hlt)
        have hdk : DrOk ql[k].d := Hp.out.ok _ (by simpa using List.mem_map.2 ⟨ql[k], List.getElem_mem hlt, rfl⟩)
        have hmay : ∀ c, mayD own s ql[k].d = c → Hid (mayD own s ql[k].d = c) := fun c h => hide h
        obtain ⟨c, hc2⟩ : ∃ c, mayD own s ql[k].d = c := ⟨_, rfl⟩
        have Hmay := hmay c hc2
        have Hqk : Hid (∃ x, ql[k] = x) := hide ⟨_, rfl⟩
        obtain ⟨x, hx⟩ := Hqk.out
        rw [hx] at hc hnk hdk hc2
        obtain ⟨⟨ticket, ⟨site, seq, dep, key, val⟩⟩, vd⟩ := x
        dsimp only at hc hnk hdk hc2
        have Hxk := hide hx
        obtain ⟨da, dc, rfl⟩ := hnk.form
        have c0 := hc 0 (by omega)
        have c1 := hc 1 (by omega)
        have c2 := hc 2 (by omega)
        have c3 := hc 3 (by omega)
        have c4 := hc 4 (by omega)
        have c5 := hc 5 (by omega)
        simp only [Dv.cells, List.getElem?_cons_zero, List.getElem?_cons_succ, Nat.add_zero] at c0 c1 c2 c3 c4 c5
        have hb1 := box_below wr (.cells #[.int .i64 ticket, .int .i64 site, .int .i64 seq, .slice da dep.length dc, .string key, .string val] 41)
        have hd1 := World.alloc_heap_new wr (.cells #[.int .i64 ticket, .int .i64 site, .int .i64 seq, .slice da dep.length dc, .string key, .string val] 41)
        have hst1 := Hst.out.new hb1
        have hdl := hdk.dep
        dsimp only at hdl
        have Hnk := hide hnk
        have Hdk := hide hdk
        have Hc2 := hide hc2
        have Hd1 := hide hd1
        have Hst1 := hide hst1
        clear hmay hx hc hat hnk hdk hc2 hd1 hst1 hb1 Hst
        go_upto_region 7 with fail
        clear c0 c1 c2 c3 c4 c5
        generalize wr.alloc (.cells #[.int .i64 ticket, .int .i64 site, .int .i64 seq, .slice da dep.length dc, .string key, .string val] 41) = W1 at *
        obtain ⟨t0, t1, t2, t3, -, -, -, -⟩ := cells4T Hst1.out.tok
        obtain ⟨d0, d1, d2, d3, d4, d5, -⟩ := cells6T Hd1.out
        have CM := hide (may_calls _ (.agg #[.int .i64 ticket, .int .i64 site, .int .i64 seq, .slice da dep.length dc, .string key, .string val]) _ ⟨ticket, ⟨site, seq, dep, key, val⟩⟩ W1 (Hst1.out.isTok Hlate.out) ⟨da, dc, rfl, Hnk.out.below Hst1.out.below⟩ Hp.out.seen (by dsimp only; omega))
        rw [Hc2.out] at CM
        go_wp2_with fail
        refine CM.out.mono ?_
        rintro e W2 ⟨rfl, hb2⟩
        have Hst2 := hide (Hst1.out.new hb2)
        have Hd2 := hide (keepB Hd1.out hb2)
        clear CM hb2 Hst1 Hd1 t0 t1 t2 t3 d0 d1 d2 d3 d4 d5
        cases c with
        | false =>
          go_wp2_with fail
          go_roundg (ql.length - (k + 1))
          case measure => have := Hkg.out; omega
          case rel =>
            refine ⟨k + 1, by have := Hkg.out; omega, by go_num, rfl, rfl, Hst2.out, fun j hj hjk => ?_⟩
            by_cases e : j = k
            · subst e
              exact Hmay.out
            · exact Hno.out j hj (by omega)
        | true =>
          have hbz := box_below W2 (.cells #[.int .i64 0, .int .i64 0, .int .i64 0, .int .i64 0, .slice none 0 0, .string ⟨#[]⟩, .string ⟨#[]⟩] 58)
          have hnz := World.alloc_heap_new W2 (.cells #[.int .i64 0, .int .i64 0, .int .i64 0, .int .i64 0, .slice none 0 0, .string ⟨#[]⟩, .string ⟨#[]⟩] 58)
          have Hst3 := hide (Hst2.out.new hbz)
          have Hd3 := hide (keepB Hd2.out hbz)
          have Hnz := hide hnz
          have hzs : W2.heap.size < (W2.alloc (.cells #[.int .i64 0, .int .i64 0, .int .i64 0, .int .i64 0, .slice none 0 0, .string ⟨#[]⟩, .string ⟨#[]⟩] 58)).heap.size := by simp
          clear hbz hnz
          go_upto_region 9 with fail
          generalize W2.alloc (.cells #[.int .i64 0, .int .i64 0, .int .i64 0, .int .i64 0, .slice none 0 0, .string ⟨#[]⟩, .string ⟨#[]⟩] 58) = W3 at *
          obtain ⟨t0, t1, t2, t3, -, -, -, -⟩ := cells4T Hst3.out.tok
          obtain ⟨d0, d1, d2, d3, d4, d5, -⟩ := cells6T Hd3.out
          have hnext : 0 ≤ nx ∧ nx ≤ 4611686018427387904 := by
            have h1 := Hp.out.next
            have h2 := Hp.out.count
            simp only [List.length_map, List.length_append] at h2
            omega
          have CA := hide (admitted_calls own nx s (.slice va' s.length vc') la xs.length lc (.agg #[.int .i64 ticket, .int .i64 site, .int .i64 seq, .slice da dep.length dc, .string key, .string val]) ⟨ticket, ⟨site, seq, dep, key, val⟩⟩ W3 (IsNums.of_row Hst3.out.seen) ⟨da, dc, rfl, Hnk.out.below Hst3.out.below⟩ Hp.out.seen Hdk.out Hc2.out hnext)
          go_wp2_with fail
          refine CA.out.mono ?_
          rintro e W4 ⟨sv4, dv4, rfl, hseen4, hdv4, hb4⟩
          obtain ⟨s4a, s4c, rfl⟩ := ownsRow_slice hseen4
          obtain ⟨d4a, d4c, rfl⟩ := ownsRow_slice hdv4
          have hz3 := Hst3.out.size
          have Hst4 := hide (Hst3.out.new hb4)
          have Hz4 := hide (keepB Hnz.out hb4)
          have hb4s := hb4.size
          clear CA hb4 Hst3 Hd3 Hnz t0 t1 t2 t3 d0 d1 d2 d3 d4 d5
          have hsl : ∀ b', (Value.slice ta sl.length tc).ownBlock = some b' → b' < W2.heap.size := fun b' e => (Hst2.out.slots.lt b' e).2
          clear Hd2
          dsimp only at hdv4 ⊢
          have hstore := Hst4.out.store (nx + 1) (.slice s4a (seenT own s ⟨ticket, ⟨site, seq, dep, key, val⟩⟩).length s4c) (seenT own s ⟨ticket, ⟨site, seq, dep, key, val⟩⟩) (ownsRow_low hseen4 (by have := Hst4.out.size; omega))
          obtain ⟨q, hq⟩ : ∃ q, (putT own s ⟨ticket, ⟨site, seq, dep, key, val⟩⟩).r.seq = q := ⟨_, rfl⟩
          rw [hq]
          obtain ⟨S, hS⟩ : ∃ S, seenT own s ⟨ticket, ⟨site, seq, dep, key, val⟩⟩ = S := ⟨_, rfl⟩
          rw [hS] at hstore hseen4 ⊢
          obtain ⟨t0, t1, t2, t3, f0, f1, f2, f3⟩ := cells4T Hst4.out.tok
          obtain ⟨z0, z1, z2, z3, z4, z5, z6, g0, g1, g2, g3, g4, g5, g6⟩ := cells7T Hz4.out
          have Hq := hide hq
          have HS := hide hS
          have Hstore := hide hstore
          have Hdv4 := hide hdv4
          clear hq hS hstore hdv4 hseen4
          have hne1 : W2.heap.size ≠ w.heap.size := by have := Hst2.out.size; omega
          have hne2 : w.heap.size ≠ W2.heap.size := fun e => hne1 e.symm
          go_upto_region 10 with fail
          clear t0 t1 t2 t3 f0 f1 f2 f3 z0 z1 z2 z3 z4 z5 z6 g0 g1 g2 g3 g4 g5 g6
          have hz5 := (put4T_other (b := w.heap.size) (W := W4) W2.heap.size hne1 (.int .i64 own) (.int .i64 (nx + 1)) (.slice s4a S.length s4c) (.slice la xs.length lc)).trans Hz4.out
          have hdv5 := ownsRow_of_heap (W' := put4T W4 w.heap.size (.int .i64 own) (.int .i64 (nx + 1)) (.slice s4a S.length s4c) (.slice la xs.length lc)) Hdv4.out fun k' e => put4T_other k' (by have := (Hdv4.out.lt k' e).1; have := Hst2.out.size; omega) _ _ _ _
          obtain ⟨W5, hW5⟩ : ∃ W5, put4T W4 w.heap.size (.int .i64 own) (.int .i64 (nx + 1)) (.slice s4a S.length s4c) (.slice la xs.length lc) = W5 := ⟨_, rfl⟩
          have Hst5 := Hstore.out
          rw [hW5] at hz5 hdv5 Hst5
          unfold put4T at hW5
          rw [hW5]
          have hbx6 := Hst5.box (w' := put7T W5 W2.heap.size (.int .i64 nx) (.int .i64 ticket) (.int .i64 site) (.int .i64 q) (.slice d4a dep.length d4c) (.string key) (.string val)) hz5 Hst2.out.size (fun e => by have := hsl _ e; omega) (put7T_touch (S := fun k => k = W2.heap.size) W5 rfl (.int .i64 nx) (.int .i64 ticket) (.int .i64 site) (.int .i64 q) (.slice d4a dep.length d4c) (.string key) (.string val))
          have hz6 := put7T_heap hz5 (.int .i64 nx) (.int .i64 ticket) (.int .i64 site) (.int .i64 q) (.slice d4a dep.length d4c) (.string key) (.string val)
          have hdv6 := ownsRow_of_heap (W' := put7T W5 W2.heap.size (.int .i64 nx) (.int .i64 ticket) (.int .i64 site) (.int .i64 q) (.slice d4a dep.length d4c) (.string key) (.string val)) hdv5 fun k' e => put7T_other k' (by have := (hdv5.lt k' e).1; omega) _ _ _ _ _ _ _
          obtain ⟨W6, hW6⟩ : ∃ W6, put7T W5 W2.heap.size (.int .i64 nx) (.int .i64 ticket) (.int .i64 site) (.int .i64 q) (.slice d4a dep.length d4c) (.string key) (.string val) = W6 := ⟨_, rfl⟩
          rw [hW6] at hbx6 hz6 hdv6
          unfold put7T at hW6
          rw [hW6]
          have Hst6 := hide hbx6
          have Hz6 := hide hz6
          have Hdv6 := hide (ownsRow_low hdv6 (by have := Hst2.out.size; omega : w.heap.size + 2 ≤ W3.heap.size))
          clear hW5 hW6 hz5 hdv5 Hst5 hbx6 hz6 hdv6 Hst4 Hz4 Hdv4 Hstore
          obtain ⟨z0, z1, z2, z3, z4, z5, z6, -⟩ := cells7T Hz6.out
          have hsz6 := Hst6.out.size
          go_wp2_with (at_builtin; refine wpList_append_own _ rfl _ _ 48 rfl (w.heap.size + 2) 58 i0 _ 7 88 Try.underlying48 hi0 hz0 hz1 hz2 rfl (by decide) _ _ _ rfl (World.ownsRow.alloc Hst6.out.slots _) ⟨_, 0, none⟩ 1 1 (Sv.cells ⟨nx, ⟨⟨ticket, ⟨site, q, dep, key, val⟩⟩, .slice d4a dep.length d4c⟩⟩) rfl rfl (cells_new rfl) (one7 (s := ⟨nx, ⟨⟨ticket, ⟨site, q, dep, key, val⟩⟩, .slice d4a dep.length d4c⟩⟩) rfl) (by unfold maxLen; omega) (by omega) (by simp; omega) ?_; intro v7 W7 hown7 hgrow7 _; have Hst7 := hide (Hst6.out.add (x := ⟨nx, ⟨⟨ticket, ⟨site, q, dep, key, val⟩⟩, .slice d4a dep.length d4c⟩⟩) Hdv6.out hown7 hgrow7); obtain ⟨g7, c7, rfl⟩ := ownsRow_succ hown7)
          have CW := hide (without_calls (w.heap.size + 2) _ ql k W7 Hst7.out.left hlt fun x hx => let ⟨a, c, e⟩ := (Hst7.out.nums x hx).form; ⟨a, _, c, e⟩)
          clear hown7 hgrow7 z0 z1 z2 z3 z4 z5 z6
          go_wp2_with fail
          refine CW.out.mono ?_
          rintro e W8 ⟨v8, rfl, hl8, -, ht8⟩
          have Hst8 := hide (Hst7.out.take hl8 (fun x hx => List.mem_of_mem_eraseIdx hx) ht8)
          have hel : (ql.eraseIdx k).length = ql.length - 1 := by rw [List.length_eraseIdx, if_pos hlt]
          have Hel := hide hel
          obtain ⟨a8, c8, rfl⟩ := hl8.form
          clear CW hl8 ht8 hel
          go_wp2_with fail
          go_roundg (ql.length - 1)
          case measure => omega
          case rel =>
            have hkm : k < (ql.map (·.d)).length := by simpa using hlt
            have hgk : (ql.map (·.d))[k] = ⟨ticket, ⟨site, seq, dep, key, val⟩⟩ := by rw [List.getElem_map, Hxk.out]
            have hstep := Hp.out.step k hkm (fun j hj hjk => by rw [List.getElem_map]; exact Hno.out j (by simpa using hj) hjk) (by rw [hgk]; exact Hc2.out)
            rw [hgk, HS.out, putT_form, Hq.out] at hstep
            refine ⟨ql.eraseIdx k, sl ++ [⟨nx, ⟨⟨ticket, ⟨site, q, dep, key, val⟩⟩, .slice d4a dep.length d4c⟩⟩], S, nx + 1, .slice s4a S.length s4c, put ++ [⟨ticket, ⟨site, q, dep, key, val⟩⟩], by have := Hel.out; omega, Hst8.out, ?_⟩
            have e1 : (ql.eraseIdx k).map (·.d) = (ql.map (·.d)).eraseIdx k := map_erase _ ql k
            have e2 : (sl ++ [(⟨nx, ⟨⟨ticket, ⟨site, q, dep, key, val⟩⟩, .slice d4a dep.length d4c⟩⟩ : Sv)]).map Sv.dat = sl.map Sv.dat ++ [((nx, (⟨ticket, ⟨site, q, dep, key, val⟩⟩ : DrD)) : Int × DrD)] := by rw [List.map_append]; rfl
            rw [e1, e2]
            exact hstep
      · have hltI : ¬ (k : Int) < (ql.length : Int) := by omega
        go_upto_region 13 with fail
        obtain rfl : k = ql.length := by have := Hkg.out; omega
        have CL := hide (late_calls own nx s (.slice va' s.length vc') la xs.length lc _ ql wr (IsNums.of_row Hst.out.seen) Hst.out.left.rd (fun x hx => ⟨(Hst.out.nums x hx).below Hst.out.below, (Hp.out.ok _ (List.mem_map.2 ⟨x, hx, rfl⟩)).dep⟩) Hp.out.seen hql)
        obtain ⟨t0, t1, t2, t3, -, -, -, -⟩ := cells4T Hst.out.tok
        have hp2 : AdmP own next seen (xs.map (·.d) ++ ys.map (·.d)) nx s (ql.map (·.d)) (sl.map Sv.dat) put := by
          have := Hp.out
          rwa [List.map_append] at this
        have Hfin := hide (hp2.fin fun j hj => by rw [List.getElem_map]; exact Hno.out j (by simpa using hj) (by simpa using hj))
        go_wp2_with fail
        refine CL.out.mono ?_
        rintro e W2 ⟨v2, ol, rfl, hol, hrow, hdeps, hb2⟩
        obtain ⟨o2, c2, rfl⟩ := ownsRow_slice hrow
        have Hst2 := hide (Hst.out.new hb2)
        have hzr := Hst.out.size
        have Hol := hide hol
        have Hrow := hide hrow
        have Hdeps := hide hdeps
        clear CL hb2 t0 t1 t2 t3 hp2 hol hrow hdeps Hst
        obtain ⟨t0, t1, t2, t3, f0, f1, f2, f3⟩ := cells4T Hst2.out.tok
        go_upto_region 14 with fail
        clear t0 t1 t2 t3 f0 f1 f2 f3
        have ho : ∀ k, k ≠ w.heap.size → (W2.setCell ⟨w.heap.size, 3, none⟩ (.slice o2 ol.length c2)).heap[k]? = W2.heap[k]? := fun k hk => Below.heap_setCell _ _ _ _ hk
        have hb3 := Hst2.out.below.setCell (p := ⟨w.heap.size, 3, none⟩) (Nat.le_refl _) (.slice o2 ol.length c2)
        have k0 := setAt (j := 3) Hst2.out.tok (.slice o2 ol.length c2)
        have k1 : (W2.setCell ⟨w.heap.size, 3, none⟩ (.slice o2 ol.length c2)).heap[w.heap.size + 1]? = _ := (ho _ (by omega)).trans Hst2.out.res
        have hrow3 := ownsRow_of_heap Hrow.out fun k e => ho k (by have := (Hrow.out.lt k e).1; omega)
        have hdeps3 : ∀ x ∈ ol, (W2.setCell ⟨w.heap.size, 3, none⟩ (.slice o2 ol.length c2)).ownsRow wr.heap.size 3 1 x.vd x.d.r.dep.length (x.d.r.dep.map (Value.int .i64)) := fun x hx => ownsRow_of_heap (Hdeps.out x hx) fun k e => ho k (by have := ((Hdeps.out x hx).lt k e).1; omega)
        have hseen3 := ownsRow_of_heap Hst2.out.seen fun k e => ho k (by have := (Hst2.out.seen.lt k e).1; omega)
        have hslots3 := ownsRow_of_heap Hst2.out.slots fun k e => ho k (by have := (Hst2.out.slots.lt k e).1; omega)
        have hsd3 : ∀ x ∈ sl, (W2.setCell ⟨w.heap.size, 3, none⟩ (.slice o2 ol.length c2)).ownsRow (w.heap.size + 2) 3 1 x.q.vd x.q.d.r.dep.length (x.q.d.r.dep.map (Value.int .i64)) := fun x hx => ownsRow_of_heap (Hst2.out.deps x hx) fun k e => ho k (by have := ((Hst2.out.deps x hx).lt k e).1; omega)
        generalize W2.setCell ⟨w.heap.size, 3, none⟩ (.slice o2 ol.length c2) = W3 at *
        simp at k0
        obtain ⟨t0, t1, t2, t3, -, -, -, -⟩ := cells4T k0
        obtain ⟨r0, r1, r2, r3, f0, f1, f2, f3⟩ := cells4T k1
        have K1 := hide k1
        have HB3 := hide hb3
        have Hrow3 := hide hrow3
        have Hdeps3 := hide hdeps3
        have Hseen3 := hide hseen3
        have Hslots3 := hide hslots3
        have Hsd3 := hide hsd3
        clear ho k0 k1 hb3 hrow3 hdeps3 hseen3 hslots3 hsd3
        go_wp2_with fail
        have e2 := put4T_heap K1.out (.int .i64 own) (.int .i64 nx) (.slice va' s.length vc') (.slice o2 ol.length c2)
        have hB4 := put4T_below HB3.out (show w.heap.size ≤ w.heap.size + 1 by omega) (.int .i64 own) (.int .i64 nx) (.slice va' s.length vc') (.slice o2 ol.length c2)
        have ho4 : ∀ k, k ≠ w.heap.size + 1 → (put4T W3 (w.heap.size + 1) (.int .i64 own) (.int .i64 nx) (.slice va' s.length vc') (.slice o2 ol.length c2)).heap[k]? = W3.heap[k]? := fun k hk => put4T_other k hk _ _ _ _
        obtain ⟨W4, hW4⟩ : ∃ W4, put4T W3 (w.heap.size + 1) (.int .i64 own) (.int .i64 nx) (.slice va' s.length vc') (.slice o2 ol.length c2) = W4 := ⟨_, rfl⟩
        rw [hW4] at e2 hB4 ho4
        unfold put4T at hW4
        rw [hW4]
        obtain ⟨q0, q1, q2, q3, -⟩ := cells4T e2
        rw [Exit.noGoto_ret]
        have hseen4 := ownsRow_of_heap Hseen3.out fun k e => ho4 k (by have := (Hseen3.out.lt k e).1; omega)
        have hslots4 := ownsRow_of_heap Hslots3.out fun k e => ho4 k (by have := (Hslots3.out.lt k e).1; omega)
        have hrow4 := ownsRow_of_heap Hrow3.out fun k e => ho4 k (by have := (Hrow3.out.lt k e).1; omega)
        have hdeps4 : ∀ x ∈ ol, W4.ownsRow wr.heap.size 3 1 x.vd x.d.r.dep.length (x.d.r.dep.map (Value.int .i64)) := fun x hx => ownsRow_of_heap (Hdeps3.out x hx) fun k e => ho4 k (by have := ((Hdeps3.out x hx).lt k e).1; omega)
        have hsd4 : ∀ x ∈ sl, W4.ownsRow (w.heap.size + 2) 3 1 x.q.vd x.q.d.r.dep.length (x.q.d.r.dep.map (Value.int .i64)) := fun x hx => ownsRow_of_heap (Hsd3.out x hx) fun k e => ho4 k (by have := ((Hsd3.out x hx).lt k e).1; omega)
        refine bodyPost_ret (v := .tuple #[.agg #[.int .i64 own, .int .i64 nx, .slice va' s.length vc', .slice o2 ol.length c2], .slice ta sl.length tc]) (by simp [results, Try.f17, go_sem, q0, q1, q2, q3]) rfl ⟨_, _, rfl, ?_, ?_, hB4⟩
        · rw [Hfin.out]
          intro X hX
          refine ⟨va', vc', o2, c2, ?_, IsNums.of_row (ownsRow_of_heap hseen4 fun k e => hX k (by have := (hseen4.lt k e).1; omega) (hseen4.lt k e).2), ?_⟩
          · dsimp only
            rw [← Hol.out, List.length_map]
          · dsimp only
            rw [← Hol.out, List.length_map]
            exact drs_of_row (ownsRow_of_heap hrow4 fun k e => hX k (by have := (hrow4.lt k e).1; have := Hst2.out.below.size; omega) (hrow4.lt k e).2) fun x hx => IsNums.of_row (ownsRow_of_heap (hdeps4 x hx) fun k e => hX k (by have := ((hdeps4 x hx).lt k e).1; omega) ((hdeps4 x hx).lt k e).2)
        · rw [Hfin.out]
          intro X hX
          exact sls_of_row (ownsRow_of_heap hslots4 fun k e => hX k (by have := (hslots4.lt k e).1; omega) (hslots4.lt k e).2) fun x hx => IsNums.of_row (ownsRow_of_heap (hsd4 x hx) fun k e => hX k (by have := ((hsd4 x hx).lt k e).1; omega) ((hsd4 x hx).lt k e).2)

end Go.Proofs.Ytdkpbfigjdmfpaa
