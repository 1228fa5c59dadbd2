/- Own work: the parts WFilterPlays of the proof, laid together. -/
import Derived.Test.YtompaldhnbcikaaPartFilterPlays11
/- FilterPlays: the walk. Own work; no statement. -/
set_option linter.unusedSimpArgs false
set_option linter.unusedVariables false
namespace Go.Proofs.Ytompaldhnbcikaa
open Go.RowKit Go.Shelf Go.Sort

theorem IsActsF.at_ {w w' : World} {a : Option Addr} {n cap : Nat} {l : List ActF} (h : IsActsF w (.slice a n cap) l) (hb : RowKit.Below w.heap.size w w') (k : Nat) (hk : k < l.length) : ∃ b o, a = some ⟨b, o, none⟩ ∧ n = l.length ∧ ∃ da dc, w'.cell? ⟨b, o + k * 7, none⟩ = some (.int .i64 (l[k]).op) ∧ w'.cell? ⟨b, o + k * 7 + 1, none⟩ = some (.int .i64 (l[k]).n) ∧ w'.cell? ⟨b, o + k * 7 + 2, none⟩ = some (.int .i64 (l[k]).r.site) ∧ w'.cell? ⟨b, o + k * 7 + 3, none⟩ = some (.int .i64 (l[k]).r.seq) ∧ w'.cell? ⟨b, o + k * 7 + 4, none⟩ = some (.slice da (l[k]).r.dep.length dc) ∧ w'.cell? ⟨b, o + k * 7 + 5, none⟩ = some (.string (l[k]).r.key) ∧ w'.cell? ⟨b, o + k * 7 + 6, none⟩ = some (.string (l[k]).r.val) ∧ IsNums .i64 w (.slice da (l[k]).r.dep.length dc) (l[k]).r.dep := by
  obtain ⟨a', cap', e, hc⟩ := h
  simp only [Value.slice.injEq] at e
  obtain ⟨rfl, rfl, rfl⟩ := e
  obtain ⟨b, o, rfl, h0, h1, h2, h3, ⟨da, dc, h4, hn⟩, h5, h6⟩ := hc k hk
  have hlt : b < w.heap.size := World.block_lt_of_cell? w _ h0
  exact ⟨b, o, rfl, rfl, da, dc, (hb.cell (p := ⟨b, _, none⟩) hlt).trans h0, (hb.cell (p := ⟨b, _, none⟩) hlt).trans h1, (hb.cell (p := ⟨b, _, none⟩) hlt).trans h2, (hb.cell (p := ⟨b, _, none⟩) hlt).trans h3, (hb.cell (p := ⟨b, _, none⟩) hlt).trans h4, (hb.cell (p := ⟨b, _, none⟩) hlt).trans h5, (hb.cell (p := ⟨b, _, none⟩) hlt).trans h6, hn⟩

theorem first_dep {F : FilD} (hok : F.ok) {o : Option RecD} (ho : firstF F = o) : (o.getD zeroR).dep.length ≤ 1099511627776 := by
  cases o with
  | none => simp [zeroR]
  | some r =>
    have := (good_of (hok.each r (firstF_some ho).1).1).2.2.2.2
    show r.dep.length ≤ _
    omega

theorem keepC {W W' : World} {b : Nat} {o : Obj} (h : W.heap[b]? = some o) (hb : RowKit.Below W.heap.size W W') : W'.heap[b]? = some o := (hb.block b (ltAt h)).trans h
theorem S5 {W : World} {b : Nat} {x0 x1 x2 x3 x4 x5 x6 : Value} {t : TypeId} (h : W.heap[b]? = some (.cells #[x0, x1, x2, x3, x4, x5, x6] t (0, 0))) : W.cell? ⟨b, 2, none⟩ = some x2 ∧ W.cell? ⟨b, 3, none⟩ = some x3 ∧ W.cell? ⟨b, 4, none⟩ = some x4 ∧ W.cell? ⟨b, 5, none⟩ = some x5 ∧ W.cell? ⟨b, 6, none⟩ = some x6 :=
  ⟨by simpa using cellsAt h 2, by simpa using cellsAt h 3, by simpa using cellsAt h 4, by simpa using cellsAt h 5, by simpa using cellsAt h 6⟩
theorem Bo.off {w0 w w' : World} {p b p' b' m : Nat} {F F' F2 G : FilD} (h : Bo w0 w p' b' m F' G) (h' : Bo w0 w p b m F F2) (t : Touch (onFil p b) w w') (hp : p' ≠ p) (hb : b' ≠ b) : Bo w0 w' p' b' m F' G :=
  ⟨⟨h.at_.fil.touch h'.at_.fil t hp hb, h.at_.lowp, h.at_.lowb, h.at_.bel.trans (t.below h.at_.bel.size fun k _ hk => by rcases hk with rfl | rfl; exact h'.at_.lowp; exact h'.at_.lowb)⟩, h.rf.kept (kept_touch h'.at_.fil t)⟩

def lenOfF : Value → Nat
  | .slice _ n _ => n
  | _ => 0
theorem S1 {W : World} {b : Nat} {x0 x1 x2 x3 x4 x5 x6 : Value} {t : TypeId} (h : W.heap[b]? = some (.cells #[x0, x1, x2, x3, x4, x5, x6] t (0, 0))) : W.cell? ⟨b, 1, none⟩ = some x1 := by simpa using cellsAt h 1
theorem tmp_at {W : World} (o o2 : Obj) : ((W.alloc o).alloc o2).heap[W.heap.size + 1]? = some o2 := by
  have h := World.alloc_heap_new (W.alloc o) o2
  have e : (W.alloc o).heap.size = W.heap.size + 1 := by simp
  rw [e] at h
  exact h
theorem IsRecs.ofRow {w0 w : World} {B : Nat} {v : Value} {l : List Pl} (h : w.ownsRow B 41 5 v l.length (l.flatMap Pl.cells5)) (hd : ∀ p ∈ l, IsNums .i64 w0 p.vd p.r.dep) (hb : RowKit.Below w0.heap.size w0 w) : IsRecs w v (l.map (·.r)) := by
  obtain ⟨a, cap, rfl⟩ := ownsRow_slice h
  refine ⟨a, cap, by simp, fun t ht => ?_⟩
  have ht' : t < l.length := by simpa using ht
  obtain ⟨g, cap', e, c0, c1, c2, c3, c4⟩ := row_cells h t ht'
  simp only [Value.slice.injEq] at e
  obtain ⟨rfl, -, rfl⟩ := e
  have hn := (hd _ (List.getElem_mem ht')).below hb
  obtain ⟨da, dc, hda⟩ := hn.form
  rw [List.getElem_map]
  rw [hda] at c2 hn
  exact ⟨g, 0, rfl, da, dc, by rw [Nat.zero_add]; exact c0, by rw [Nat.zero_add]; exact c1, by rw [Nat.zero_add]; exact c2, by rw [Nat.zero_add]; exact c3, by rw [Nat.zero_add]; exact c4, hn⟩
theorem takesF_okF {F : FilD} (hok : F.ok) : ∀ k, k ≤ (readyL F).length → (takesF k F).ok
  | 0, _ => hok
  | k + 1, h => by
    have ih := takesF_okF hok k (by omega)
    have hf := readyL_first hok k (by omega)
    rw [List.getElem?_eq_getElem (by omega)] at hf
    rw [takesF_succ]
    exact takeF_ok ih hf
theorem ready_dep {F : FilD} (hok : F.ok) {r : RecD} (hr : r ∈ readyL F) : r.dep.length ≤ 1099511627776 := by
  obtain ⟨j, hj, rfl⟩ := List.getElem_of_mem hr
  have h := readyL_first hok j (by omega)
  rw [List.getElem?_eq_getElem hj] at h
  have hk : (takesF j F).ok := takesF_okF hok j (by omega)
  exact first_dep hk h
theorem five_oneF (a b : Int) (d : Option Addr) (n c : Nat) (k l : ByteArray) : ∀ u ∈ [Value.int .i64 a, .int .i64 b, .slice d n c, .string k, .string l], u.oneCell' = true := by
  intro u hu
  simp at hu
  rcases hu with rfl | rfl | rfl | rfl | rfl <;> rfl

set_option maxRecDepth 100000 in
set_option maxHeartbeats 8000000 in
theorem filterPlays_main (site room : Int) (va : Value) (l : List ActF) (w : World) (ws : (Lit.int .i64 site).wf = true) (wr' : (Lit.int .i64 room).wf = true) (hv : IsActsF w va l) (hwl : ∀ x ∈ l, ActWfF x) :
    Calls Try.prog 3 #[.int .i64 site, .int .i64 room, va] w fun e w' => e = .returned (.bool true) ∧ RowKit.Below w.heap.size w w' := by
  have Hv := hide hv
  have Hwl := hide hwl
  obtain ⟨a, cap, rfl, -⟩ := hv
  clear hwl ws wr'
  go_enter Try.func3, Try.ntmps3
  go_wp2_with fail
  refine (filKnown_calls w).mono ?_
  rintro e w1 ⟨rfl, b1⟩
  go_wp2_with fail
  refine (few7_calls _ l w1 (Hv.out.below b1)).mono ?_
  rintro e w2 ⟨⟨fb, rfl, hfew⟩, b2⟩
  have B2 := b1.trans (b2.mono b1.size)
  clear b1 b2
  cases fb with
  | false =>
    go_wp2_with fail
    go_ret
    exact ⟨rfl, B2⟩
  | true =>
  obtain ⟨hl80, hfew'⟩ := hfew rfl
  have Hfew := hide hfew'
  clear hfew hfew'
  by_cases hsr : 0 ≤ site ∧ site < 8 ∧ 1 ≤ room ∧ room ≤ 64
  case neg =>
    go_wp2_with fail
    refine (filNew_none site room w2 hsr).mono ?_
    rintro e w3 ⟨rfl, rfl⟩
    go_wp2_with fail
    refine (refNew7_none site room w3 hsr).mono ?_
    rintro e w4 ⟨rfl, rfl⟩
    go_wp2_with fail
    go_ret
    exact ⟨rfl, B2⟩
  go_wp2_with fail
  refine (filNew_calls site room w2 hsr).mono ?_
  rintro e w3 ⟨rfl, hf, hb⟩
  obtain ⟨p, b, hp, A3⟩ := new_at hf hb B2
  rw [← hp]
  clear hf hb hp B2
  go_wp2_with fail
  refine (refNew7_calls site room w3 hsr w).mono ?_
  rintro e w4 ⟨rfl, hrf, hb⟩
  have Bo4 : Bo w w4 p b w3.heap.size ⟨site, room, 1, []⟩ ⟨site, room, 1, []⟩ := ⟨A3.new hb, by
    obtain ⟨v, l, h1, h2, h3, h4⟩ := hrf.val
    exact ⟨A3.bel.size, v, l, h1, h2, ⟨h3.1, h3.2.imp id fun ⟨g, cap, cur, e, hg, h⟩ => ⟨g, cap, cur, e, Nat.le_trans A3.bel.size hg, h⟩⟩, h4⟩⟩
  obtain ⟨m, hm⟩ : ∃ m, w3.heap.size = m := ⟨_, rfl⟩
  rw [hm] at Bo4 ⊢
  clear hrf hb hm A3
  have hok4 : (⟨site, room, 1, []⟩ : FilD).ok := Bo4.at_.fil.ok
  go_wp2_with fail
  go_loopw [7, 11] (fun pf i wr => ∃ (k p b : Nat) (F : FilD), pf = .pointer (some ⟨p, 0, none⟩) ∧ i = .int .i64 (k : Int) ∧ k ≤ l.length ∧ Bo w wr p b m F F) (fun _ i _ => l.length - (intOf i).toNat)
  case atStart => exact ⟨0, p, b, _, rfl, rfl, Nat.zero_le _, Bo4⟩
  case round =>
    clear Bo4 hok4 hsr
    obtain ⟨k, p, b, F, rfl, rfl, hk, BO⟩ := hrel
    by_cases hlt : k < l.length
    case neg =>
      have hltI : ¬ (k : Int) < (l.length : Int) := by omega
      go_wp2_with fail
      go_ret
      exact ⟨rfl, BO.at_.bel⟩
    have hltI : (k : Int) < (l.length : Int) := by omega
    obtain ⟨va, vo, rfl, -, da, dc, c0, c1, c2, c3, c4, c5, c6, hn0⟩ := Hv.out.at_ BO.at_.bel k hlt
    have hwf := Hwl.out l[k] (List.getElem_mem hlt)
    have hfw := Hfew.out l[k] (List.getElem_mem hlt)
    generalize l[k] = x at *
    obtain ⟨op, n, ⟨site, seq, dep, key, val⟩⟩ := x
    dsimp only at *
    have hOK := BO.at_.fil.ok
    by_cases o1 : op = 1
    · subst o1
      go_wp2_with fail
      have al := (RowKit.Below.refl _ wr).alloc (Nat.le_refl _) (.cells #[.int .i64 1, .int .i64 n, .int .i64 site, .int .i64 seq, .slice da dep.length dc, .string key, .string val] 37)
      have X0 := World.alloc_heap_new wr (.cells #[.int .i64 1, .int .i64 n, .int .i64 site, .int .i64 seq, .slice da dep.length dc, .string key, .string val] 37)
      have Bo0 := BO.new al
      clear al BO
      generalize wr.heap.size = bx at *
      generalize wr.alloc (.cells #[.int .i64 1, .int .i64 n, .int .i64 site, .int .i64 seq, .slice da dep.length dc, .string key, .string val] 37) = W0 at *
      have Bo1 : Bo w W0.drew p b m F F := Bo0.new (RowKit.Below.refl _ W0).drew
      have X1 : W0.drew.heap[bx]? = _ := X0
      have HV : IsRec w (.agg #[.int .i64 site, .int .i64 seq, .slice da dep.length dc, .string key, .string val]) ⟨site, seq, dep, key, val⟩ := ⟨da, dc, rfl, hn0⟩
      clear Bo0 X0
      have hbnd : dep.length ≤ 70 ∧ key.size ≤ 50 ∧ val.size ≤ 50 := by
        unfold fewR at hfw
        simpa using hfw
      have z1 := S5 X1
      refine region_headT 10 (fun W => W.cell? ⟨bx, 2, none⟩ = some (.int .i64 site) ∧ W.cell? ⟨bx, 3, none⟩ = some (.int .i64 seq) ∧ W.cell? ⟨bx, 4, none⟩ = some (.slice da dep.length dc) ∧ W.cell? ⟨bx, 5, none⟩ = some (.string key) ∧ W.cell? ⟨bx, 6, none⟩ = some (.string val)) (by kernel_rfl) (by decide) ?_
      generalize W0.drew = W1 at *
      refine HeadT.take 0 (.pointer (some ⟨p, 0, none⟩)) rfl (by kernel_rfl) (.inl ⟨rfl, fun w2 s0 => by obtain ⟨y0, y1, y2, y3, y4⟩ := s0; go_simp⟩) z1 ?_
      refine HeadT.take 1 (.pointer (some ⟨bx, 2, none⟩)) rfl (by kernel_rfl) (.inl ⟨rfl, fun w2 s0 => by obtain ⟨y0, y1, y2, y3, y4⟩ := s0; go_simp⟩) z1 ?_
      refine HeadT.take 2 (.agg #[.int .i64 site, .int .i64 seq, .slice da dep.length dc, .string key, .string val]) rfl (by kernel_rfl) (.inl ⟨rfl, fun w2 s0 => by obtain ⟨y0, y1, y2, y3, y4⟩ := s0; go_simp⟩) z1 ?_
      refine HeadT.take 4 (.pointer (some ⟨m, 0, none⟩)) rfl (by kernel_rfl) (.inl ⟨rfl, fun w2 s0 => by obtain ⟨y0, y1, y2, y3, y4⟩ := s0; go_simp⟩) z1 ?_
      refine HeadT.take 5 (.pointer (some ⟨bx, 2, none⟩)) rfl (by kernel_rfl) (.inl ⟨rfl, fun w2 s0 => by obtain ⟨y0, y1, y2, y3, y4⟩ := s0; go_simp⟩) z1 ?_
      refine HeadT.take 6 (.agg #[.int .i64 site, .int .i64 seq, .slice da dep.length dc, .string key, .string val]) rfl (by kernel_rfl) (.inl ⟨rfl, fun w2 s0 => by obtain ⟨y0, y1, y2, y3, y4⟩ := s0; go_simp⟩) z1 ?_
      refine HeadT.only 3 (by kernel_rfl) ?_
      refine wpOp_call rfl rfl 12 #[.pointer (some ⟨p, 0, none⟩), (.agg #[.int .i64 site, .int .i64 seq, .slice da dep.length dc, .string key, .string val])] (by go_simp) (bo_put _ ⟨site, seq, dep, key, val⟩ hbnd.1 hbnd.2.1 hbnd.2.2 W1 Bo1 (HV.below Bo1.at_.bel)) ?_
      rintro e w4 ⟨rfl, Bo4, kb4⟩
      have X4 := (kb4 bx _ _ _ X1 (by decide) (by decide)).trans X1
      have z4 := S5 X4
      refine ⟨_, rfl, z4, ?_⟩
      refine HeadT.only 7 (by kernel_rfl) ?_
      refine wpOp_call rfl rfl 14 #[(.agg #[.int .i64 site, .int .i64 seq, .slice da dep.length dc, .string key, .string val])] (by go_simp) (recOfLaw_calls _ ⟨site, seq, dep, key, val⟩ w4 (HV.below Bo4.at_.bel)) ?_
      rintro e w4' ⟨rfl, bl4⟩
      have Bo4' := Bo4.new bl4
      have X4' := keepC X4 bl4
      have z4' := S5 X4'
      refine ⟨_, rfl, z4', ?_⟩
      refine HeadT.only 8 (by kernel_rfl) ?_
      refine wpOp_call rfl rfl 13 #[.pointer (some ⟨m, 0, none⟩), (.agg #[.int .i64 site, .int .i64 seq, .slice da dep.length dc, .string key, .string val])] (by go_simp) (bo_rput _ ⟨site, seq, dep, key, val⟩ hbnd.1 hbnd.2.1 hbnd.2.2 w4' Bo4' hOK HV) ?_
      rintro e w5 ⟨rfl, Bo5, kb5⟩
      have X5 := (kb5 bx _ _ _ X4' (by decide) (by decide)).trans X4'
      have z5 := S5 X5
      refine ⟨_, rfl, z5, ?_⟩
      refine HeadT.take 9 (.bool false) rfl (by kernel_rfl) (.inl ⟨rfl, fun w2 s0 => by go_simp⟩) z5 ?_
      refine HeadT.tail rfl (by kernel_rfl) ?_
      simp only [List.drop_succ_cons, List.drop_zero]
      obtain ⟨G, hG⟩ : ∃ G, putF F ⟨site, seq, dep, key, val⟩ = G := ⟨_, rfl⟩
      rw [hG] at Bo5
      clear z1 z4 z5 z4' X1 X4 X4' X5 kb4 kb5 bl4 Bo1 Bo4 Bo4' hOK hbnd HV
      go_wp2_with fail
      simp only [noPanic]
      go_simp
      go_wp2_with fail
      refine (bo_first (firstF G) rfl _ Bo5).mono ?_
      rintro e w6 ⟨v6, rfl, hv6, Bo6, -⟩
      obtain ⟨o, ho⟩ : ∃ o, firstF G = o := ⟨_, rfl⟩
      rw [ho] at hv6 ⊢
      have hIs := hv6.isRec
      obtain ⟨vd6, rfl, hvd6⟩ := hv6
      obtain ⟨r6, hr6⟩ : ∃ r, (o.getD zeroR) = r := ⟨_, rfl⟩
      rw [hr6] at hIs hvd6 ⊢
      have hd6 : r6.dep.length ≤ 1099511627776 := by
        rw [← hr6]
        exact first_dep Bo5.at_.fil.ok ho
      obtain ⟨s6, q6, d6, k6, l6⟩ := r6
      obtain ⟨a6, cp6, rfl⟩ := ownsRow_slice hvd6
      dsimp only at hvd6 hIs hd6 ⊢
      have Hr6 := hide hr6
      have Hd6 := hide hd6
      have HIs := hide hIs
      have Ho := hide ho
      clear hvd6 hr6 hIs ho hd6 Bo5
      go_wp2_with fail
      have al6 := (RowKit.Below.refl _ w6).alloc (Nat.le_refl _) (.cells #[.int .i64 s6, .int .i64 q6, .slice a6 d6.length cp6, .string k6, .string l6] 35)
      have X6 := World.alloc_heap_new w6 (.cells #[.int .i64 s6, .int .i64 q6, .slice a6 d6.length cp6, .string k6, .string l6] 35)
      have Bo7 := Bo6.new al6
      have HI7 := hide (HIs.out.below al6)
      clear HIs
      refine (bo_rfirst o Ho.out _ Bo7 Bo7.at_.fil.ok).mono ?_
      rintro e w8 ⟨v8, rfl, hv8, Bo8, bl8⟩
      rw [Hr6.out] at hv8
      obtain ⟨a8, cp8, rfl, hn8⟩ := hv8
      dsimp only at hn8 ⊢
      have X8 := keepB X6 bl8
      have HI8 := hide (HI7.out.below bl8)
      have Hn8 := hide hn8
      clear HI7 X6 Bo7 al6 Bo6 bl8 hn8
      generalize w6.heap.size = x6 at *
      go_wp2_with fail
      have al8 := (RowKit.Below.refl _ w8).alloc (Nat.le_refl _) (.cells #[.int .i64 s6, .int .i64 q6, .slice a8 d6.length cp8, .string k6, .string l6] 41)
      have X9 := World.alloc_heap_new w8 (.cells #[.int .i64 s6, .int .i64 q6, .slice a8 d6.length cp8, .string k6, .string l6] 41)
      have Y9 := keepB X8 al8
      have Bo9 := Bo8.new al8
      have HI9 := hide (HI8.out.below al8)
      clear HI8 X8 Bo8 al8
      generalize w8.heap.size = x8 at *
      generalize w8.alloc (.cells #[.int .i64 s6, .int .i64 q6, .slice a8 d6.length cp8, .string k6, .string l6] 41) = W9 at *
      obtain ⟨f0, f1, f2, f3, f4, -, -, -, -, -⟩ := cells5F X9
      obtain ⟨g0, g1, g2, g3, g4, -, -, -, -, -⟩ := cells5F Y9
      obtain ⟨lv, lp, hlp, hm9, hr9, -⟩ := Bo9.rf.val
      obtain ⟨lva, lvc, rfl⟩ := ownsRow_slice hr9
      obtain ⟨-, -, m2, m3, -, -, -, -⟩ := cells4F hm9
      have hll : lp.length = G.L.length := by rw [← hlp]; simp
      rw [hll] at m3
      clear hlp hm9 hr9 hll X9 Y9
      replace f0 := cell_regrown f0
      replace f1 := cell_regrown f1
      replace f2 := cell_regrown f2
      replace f3 := cell_regrown f3
      replace f4 := cell_regrown f4
      replace g0 := cell_regrown g0
      replace g1 := cell_regrown g1
      replace g2 := cell_regrown g2
      replace g3 := cell_regrown g3
      replace g4 := cell_regrown g4
      replace m2 := cell_regrown m2
      replace m3 := cell_regrown m3
      have q4 := hide (fun d os => Calls.regrown_of (recOfLaw_calls _ ⟨s6, q6, d6, k6, l6⟩ (grow (redrawn W9 d) os) (HI9.out.below (below_regrown W9 d os))))
      have q5 := hide (fun d os => Calls.regrown_of (refSameRec_calls (.agg #[.int .i64 s6, .int .i64 q6, .slice a6 d6.length cp6, .string k6, .string l6]) (.agg #[.int .i64 s6, .int .i64 q6, .slice a8 d6.length cp8, .string k6, .string l6]) ⟨s6, q6, d6, k6, l6⟩ ⟨s6, q6, d6, k6, l6⟩ (grow (redrawn W9 d) os) (HI9.out.below (below_regrown W9 d os)) ⟨a8, cp8, rfl, (Hn8.out.below Bo9.at_.bel).below (below_regrown W9 d os)⟩ Hd6.out Hd6.out))
      rw [sameR_selfF] at q5
      have q6' := hide (fun d os => Calls.regrown_of ((bo_next (grow (redrawn W9 d) os) (Bo9.new (below_regrown W9 d os))).mono fun e w' ⟨h1, h2⟩ => ⟨h1, by subst h2; exact RowKit.Below.refl _ _⟩))
      have q7 := hide (fun d os => Calls.regrown_of ((bo_len (grow (redrawn W9 d) os) (Bo9.new (below_regrown W9 d os))).mono fun e w' ⟨h1, h2⟩ => ⟨h1, by subst h2; exact RowKit.Below.refl _ _⟩))
      have HBo9 := hide Bo9
      clear Bo9 HI9 Hn8 Hd6
      refine wp_region_quiet_below (by kernel_rfl) (by kernel_rfl) ?_
      first | go_big_quiet_step (fail) | quiet_step (fail)
      first | go_big_quiet_step (fail) | quiet_step (fail)
      first | go_big_quiet_step (fail) | quiet_step (fail)
      first | go_big_quiet_step (fail) | quiet_step (fail)
      first | go_big_quiet_step (fail) | quiet_step (fail)
      first | go_big_quiet_step (exact q4.out _ _) | quiet_step (exact q4.out _ _)
      first | go_big_quiet_step (fail) | quiet_step (fail)
      first | go_big_quiet_step (exact q5.out _ _) | quiet_step (exact q5.out _ _)
      first | go_big_quiet_step (fail) | quiet_step (fail)
      first | go_big_quiet_step (fail) | quiet_step (fail)
      first | go_big_quiet_step (fail) | quiet_step (fail)
      first | go_big_quiet_step (fail) | quiet_step (fail)
      first | go_big_quiet_step (exact q6'.out _ _) | quiet_step (exact q6'.out _ _)
      first | go_big_quiet_step (fail) | quiet_step (fail)
      first | go_big_quiet_step (fail) | quiet_step (fail)
      first | go_big_quiet_step (fail) | quiet_step (fail)
      first | go_big_quiet_step (fail) | quiet_step (fail)
      first | go_big_quiet_step (fail) | quiet_step (fail)
      first | go_big_quiet_step (fail) | quiet_step (fail)
      first | go_big_quiet_step (fail) | quiet_step (fail)
      first | go_big_quiet_step (fail) | quiet_step (fail)
      first | go_big_quiet_step (exact q7.out _ _) | quiet_step (exact q7.out _ _)
      first | go_big_quiet_step (fail) | quiet_step (fail)
      first | go_big_quiet_step (fail) | quiet_step (fail)
      first | go_big_quiet_step (fail) | quiet_step (fail)
      first | go_big_quiet_step (fail) | quiet_step (fail)
      first | go_big_quiet_step (fail) | quiet_step (fail)
      first | go_big_quiet_step (fail) | quiet_step (fail)
      first | go_big_quiet_step (fail) | quiet_step (fail)
      refine wpQuiet_nil ?_
      intro _ hw'
      obtain ⟨⟨dq, osq⟩, hw''⟩ := hw'
      subst hw''
      go_wp2_with fail
      exact ⟨⟨k + 1, p, b, G, rfl, by go_num, by omega, HBo9.out.new (below_regrown W9 dq osq)⟩, by simp [intOf]; omega⟩
    by_cases o2 : op = 2
    · subst o2
      by_cases hn : n ≤ 0
      · have hnI : ¬ (0 : Int) < n := by omega
        go_wp2_with fail
        have al := (RowKit.Below.refl _ wr).alloc (Nat.le_refl _) (.cells #[.int .i64 2, .int .i64 n, .int .i64 site, .int .i64 seq, .slice da dep.length dc, .string key, .string val] 37)
        have X0 := World.alloc_heap_new wr (.cells #[.int .i64 2, .int .i64 n, .int .i64 site, .int .i64 seq, .slice da dep.length dc, .string key, .string val] 37)
        have Bo0 := BO.new al
        clear al BO hOK
        generalize wr.heap.size = bx at *
        generalize wr.alloc (.cells #[.int .i64 2, .int .i64 n, .int .i64 site, .int .i64 seq, .slice da dep.length dc, .string key, .string val] 37) = W0 at *
        refine (bo_taken_none n hn W0 Bo0).mono ?_
        rintro e w4 ⟨rfl, Bo4, kb4⟩
        have X4 := (kb4 bx _ _ _ X0 (by decide) (by decide)).trans X0
        have z4 : w4.cell? ⟨bx, 1, none⟩ = some (.int .i64 n) := by simpa using cellsAt X4 1
        clear X0 Bo0 kb4 X4
        go_wp2_with fail
        go_loopw [15] (fun y wq => y = .slice none 0 0 ∧ wq = w4) (fun _ _ => 0)
        case atStart => exact ⟨rfl, rfl⟩
        case round =>
          obtain ⟨rfl, rfl⟩ := hrel
          go_wp2_with fail
          refine (sameAll_calls _ _ [] _ ⟨none, 0, rfl, fun t ht => by cases ht⟩ ⟨none, 0, rfl, fun t ht => by cases ht⟩ (fun r hr => by cases hr) (by decide)).mono ?_
          rintro e w5 ⟨rfl, bl5⟩
          have Bo5 := Bo4.new bl5
          obtain ⟨G, hG⟩ : ∃ G, F = G := ⟨_, rfl⟩
          rw [hG] at Bo5
          clear Bo4 z4 bl5
          go_wp2_with fail
          refine (bo_first (firstF G) rfl _ Bo5).mono ?_
          rintro e w6 ⟨v6, rfl, hv6, Bo6, -⟩
          obtain ⟨o, ho⟩ : ∃ o, firstF G = o := ⟨_, rfl⟩
          rw [ho] at hv6 ⊢
          have hIs := hv6.isRec
          obtain ⟨vd6, rfl, hvd6⟩ := hv6
          obtain ⟨r6, hr6⟩ : ∃ r, (o.getD zeroR) = r := ⟨_, rfl⟩
          rw [hr6] at hIs hvd6 ⊢
          have hd6 : r6.dep.length ≤ 1099511627776 := by
            rw [← hr6]
            exact first_dep Bo5.at_.fil.ok ho
          obtain ⟨s6, q6, d6, k6, l6⟩ := r6
          obtain ⟨a6, cp6, rfl⟩ := ownsRow_slice hvd6
          dsimp only at hvd6 hIs hd6 ⊢
          have Hr6 := hide hr6
          have Hd6 := hide hd6
          have HIs := hide hIs
          have Ho := hide ho
          clear hvd6 hr6 hIs ho hd6 Bo5
          go_wp2_with fail
          have al6 := (RowKit.Below.refl _ w6).alloc (Nat.le_refl _) (.cells #[.int .i64 s6, .int .i64 q6, .slice a6 d6.length cp6, .string k6, .string l6] 35)
          have X6 := World.alloc_heap_new w6 (.cells #[.int .i64 s6, .int .i64 q6, .slice a6 d6.length cp6, .string k6, .string l6] 35)
          have Bo7 := Bo6.new al6
          have HI7 := hide (HIs.out.below al6)
          clear HIs
          refine (bo_rfirst o Ho.out _ Bo7 Bo7.at_.fil.ok).mono ?_
          rintro e w8 ⟨v8, rfl, hv8, Bo8, bl8⟩
          rw [Hr6.out] at hv8
          obtain ⟨a8, cp8, rfl, hn8⟩ := hv8
          dsimp only at hn8 ⊢
          have X8 := keepB X6 bl8
          have HI8 := hide (HI7.out.below bl8)
          have Hn8 := hide hn8
          clear HI7 X6 Bo7 al6 Bo6 bl8 hn8
          generalize w6.heap.size = x6 at *
          go_wp2_with fail
          have al8 := (RowKit.Below.refl _ w8).alloc (Nat.le_refl _) (.cells #[.int .i64 s6, .int .i64 q6, .slice a8 d6.length cp8, .string k6, .string l6] 41)
          have X9 := World.alloc_heap_new w8 (.cells #[.int .i64 s6, .int .i64 q6, .slice a8 d6.length cp8, .string k6, .string l6] 41)
          have Y9 := keepB X8 al8
          have Bo9 := Bo8.new al8
          have HI9 := hide (HI8.out.below al8)
          clear HI8 X8 Bo8 al8
          generalize w8.heap.size = x8 at *
          generalize w8.alloc (.cells #[.int .i64 s6, .int .i64 q6, .slice a8 d6.length cp8, .string k6, .string l6] 41) = W9 at *
          obtain ⟨f0, f1, f2, f3, f4, -, -, -, -, -⟩ := cells5F X9
          obtain ⟨g0, g1, g2, g3, g4, -, -, -, -, -⟩ := cells5F Y9
          obtain ⟨lv, lp, hlp, hm9, hr9, -⟩ := Bo9.rf.val
          obtain ⟨lva, lvc, rfl⟩ := ownsRow_slice hr9
          obtain ⟨-, -, m2, m3, -, -, -, -⟩ := cells4F hm9
          have hll : lp.length = G.L.length := by rw [← hlp]; simp
          rw [hll] at m3
          clear hlp hm9 hr9 hll X9 Y9
          replace f0 := cell_regrown f0
          replace f1 := cell_regrown f1
          replace f2 := cell_regrown f2
          replace f3 := cell_regrown f3
          replace f4 := cell_regrown f4
          replace g0 := cell_regrown g0
          replace g1 := cell_regrown g1
          replace g2 := cell_regrown g2
          replace g3 := cell_regrown g3
          replace g4 := cell_regrown g4
          replace m2 := cell_regrown m2
          replace m3 := cell_regrown m3
          have q4 := hide (fun d os => Calls.regrown_of (recOfLaw_calls _ ⟨s6, q6, d6, k6, l6⟩ (grow (redrawn W9 d) os) (HI9.out.below (below_regrown W9 d os))))
          have q5 := hide (fun d os => Calls.regrown_of (refSameRec_calls (.agg #[.int .i64 s6, .int .i64 q6, .slice a6 d6.length cp6, .string k6, .string l6]) (.agg #[.int .i64 s6, .int .i64 q6, .slice a8 d6.length cp8, .string k6, .string l6]) ⟨s6, q6, d6, k6, l6⟩ ⟨s6, q6, d6, k6, l6⟩ (grow (redrawn W9 d) os) (HI9.out.below (below_regrown W9 d os)) ⟨a8, cp8, rfl, (Hn8.out.below Bo9.at_.bel).below (below_regrown W9 d os)⟩ Hd6.out Hd6.out))
          rw [sameR_selfF] at q5
          have q6' := hide (fun d os => Calls.regrown_of ((bo_next (grow (redrawn W9 d) os) (Bo9.new (below_regrown W9 d os))).mono fun e w' ⟨h1, h2⟩ => ⟨h1, by subst h2; exact RowKit.Below.refl _ _⟩))
          have q7 := hide (fun d os => Calls.regrown_of ((bo_len (grow (redrawn W9 d) os) (Bo9.new (below_regrown W9 d os))).mono fun e w' ⟨h1, h2⟩ => ⟨h1, by subst h2; exact RowKit.Below.refl _ _⟩))
          have HBo9 := hide Bo9
          clear Bo9 HI9 Hn8 Hd6
          refine wp_region_quiet_below (by kernel_rfl) (by kernel_rfl) ?_
          first | go_big_quiet_step (fail) | quiet_step (fail)
          first | go_big_quiet_step (fail) | quiet_step (fail)
          first | go_big_quiet_step (fail) | quiet_step (fail)
          first | go_big_quiet_step (fail) | quiet_step (fail)
          first | go_big_quiet_step (fail) | quiet_step (fail)
          first | go_big_quiet_step (exact q4.out _ _) | quiet_step (exact q4.out _ _)
          first | go_big_quiet_step (fail) | quiet_step (fail)
          first | go_big_quiet_step (exact q5.out _ _) | quiet_step (exact q5.out _ _)
          first | go_big_quiet_step (fail) | quiet_step (fail)
          first | go_big_quiet_step (fail) | quiet_step (fail)
          first | go_big_quiet_step (fail) | quiet_step (fail)
          first | go_big_quiet_step (fail) | quiet_step (fail)
          first | go_big_quiet_step (exact q6'.out _ _) | quiet_step (exact q6'.out _ _)
          first | go_big_quiet_step (fail) | quiet_step (fail)
          first | go_big_quiet_step (fail) | quiet_step (fail)
          first | go_big_quiet_step (fail) | quiet_step (fail)
          first | go_big_quiet_step (fail) | quiet_step (fail)
          first | go_big_quiet_step (fail) | quiet_step (fail)
          first | go_big_quiet_step (fail) | quiet_step (fail)
          first | go_big_quiet_step (fail) | quiet_step (fail)
          first | go_big_quiet_step (fail) | quiet_step (fail)
          first | go_big_quiet_step (exact q7.out _ _) | quiet_step (exact q7.out _ _)
          first | go_big_quiet_step (fail) | quiet_step (fail)
          first | go_big_quiet_step (fail) | quiet_step (fail)
          first | go_big_quiet_step (fail) | quiet_step (fail)
          first | go_big_quiet_step (fail) | quiet_step (fail)
          first | go_big_quiet_step (fail) | quiet_step (fail)
          first | go_big_quiet_step (fail) | quiet_step (fail)
          first | go_big_quiet_step (fail) | quiet_step (fail)
          refine wpQuiet_nil ?_
          intro _ hw'
          obtain ⟨⟨dq, osq⟩, hw''⟩ := hw'
          subst hw''
          go_wp2_with fail
          exact ⟨⟨k + 1, p, b, G, rfl, by go_num, by omega, HBo9.out.new (below_regrown W9 dq osq)⟩, by simp [intOf]; omega⟩
      obtain ⟨N, rfl⟩ : ∃ N : Nat, n = (N : Int) := ⟨n.toNat, by omega⟩
      have hN63 := (rng64F hwf.n).2
      go_wp2_with fail
      have al := (RowKit.Below.refl _ wr).alloc (Nat.le_refl _) (.cells #[.int .i64 2, .int .i64 (N : Int), .int .i64 site, .int .i64 seq, .slice da dep.length dc, .string key, .string val] 37)
      have X0 := World.alloc_heap_new wr (.cells #[.int .i64 2, .int .i64 (N : Int), .int .i64 site, .int .i64 seq, .slice da dep.length dc, .string key, .string val] 37)
      have Bo0 := BO.new al
      clear al BO
      generalize wr.heap.size = bx at *
      generalize wr.alloc (.cells #[.int .i64 2, .int .i64 (N : Int), .int .i64 site, .int .i64 seq, .slice da dep.length dc, .string key, .string val] 37) = W0 at *
      refine (bo_taken N (by omega) W0 Bo0).mono ?_
      rintro e w4 ⟨v4, rfl, hl4, Bo4, kb4⟩
      have X4 := (kb4 bx _ _ _ X0 (by decide) (by decide)).trans X0
      obtain ⟨xa, xc, rfl, -⟩ := hl4.form
      obtain ⟨i0, hi0, hz0, hz1, hz2⟩ := info_parts Try.info41
      have hlen := readyL_len hOK
      have HOK := hide hOK
      have hws := Bo4.size
      clear X0 Bo0 kb4 hOK
      obtain ⟨T, hT⟩ : ∃ T, (readyL F).length = T := ⟨_, rfl⟩
      rw [hT] at hlen Bo4
      have HT := hide hT
      have hTN : ((readyL F).take N).length = min N T := by rw [List.length_take, hT]
      have hws2 := hTN
      clear hT hws2
      rw [hTN]
      rw [hTN] at hl4
      replace hTN := hide hTN
      go_wp2_with fail
      go_loopw [15] (fun y wq => ∃ (j : Nat) (lY : List Pl), j ≤ min N T ∧ lY.length = j ∧ lY.map (·.r) = (readyL F).take j ∧ wq.ownsRow w.heap.size 41 5 y j (lY.flatMap Pl.cells5) ∧ (∀ q ∈ lY, IsNums .i64 w q.vd q.r.dep) ∧ Bo w wq p b m (takesF (min N T) F) (takesF j F) ∧ HasL wq (.slice xa (min N T) xc) ((readyL F).take N) ∧ wq.heap[bx]? = some (.cells #[.int .i64 2, .int .i64 (N : Int), .int .i64 site, .int .i64 seq, .slice da dep.length dc, .string key, .string val] 37 (0, 0))) (fun y _ => T - lenOfF y)
      case atStart => exact ⟨0, [], Nat.zero_le _, rfl, rfl, World.ownsRow_nil _ _ _ _, fun q hq => (by cases hq), Bo4, hl4, X4⟩
      case round =>
        clear Bo4 hl4 X4
        obtain ⟨j, lY, hj, hlY, hmap, hown, hnum, Bo4, hl4, X4⟩ := hrel
        obtain ⟨ya, yc, rfl⟩ := ownsRow_slice hown
        have z4 := S1 X4
        have hfirst := readyL_first HOK.out j (by have := HT.out; omega)
        have hokG := takesF_okF HOK.out j (by have := HT.out; omega)
        by_cases hjN : j < N
        · have hI : (j : Int) < (N : Int) := by omega
          by_cases hjT : j < T
          · have hjl : j < (readyL F).length := by have := HT.out; omega
            rw [List.getElem?_eq_getElem hjl] at hfirst
            have htk := List.take_succ_eq_append_getElem hjl
            generalize (readyL F)[j] = r at hfirst htk
            go_wp2_with fail
            refine (bo_rtake r hfirst _ Bo4 hokG).mono ?_
            rintro e w6 ⟨v6, rfl, hv6, Bo6, kb6, rf6⟩
            obtain ⟨rs, rq, rd, rk, rl⟩ := r
            obtain ⟨a6, c6, rfl, hn6⟩ := hv6
            dsimp only at hn6 ⊢
            rw [← takesF_succ] at Bo6
            have y6 := ownsRow_of_heap hown fun k e => (by obtain ⟨c, hc⟩ := own_cells hown e; exact kb6 k c _ _ hc (by decide) (by decide) : w6.heap[k]? = _)
            have hyl := fun k e => (hown.lt k e).2
            have X6 := (kb6 bx _ _ _ X4 (by decide) (by decide)).trans X4
            have hl6 := hl4.keptB kb6
            have hs6 : w.heap.size ≤ w6.heap.size := Bo6.size
            have Y6 := hide y6
            have HYL := hide hyl
            have HL6 := hide hl6
            have HN6 := hide hn6
            have HTK := hide htk
            have HMAP := hide hmap
            have HNUM := hide hnum
            have HHLY := hide hlY
            clear y6 hyl hl6 hn6 htk hmap hnum hown hl4 Bo4 X4 z4 hfirst kb6 hlY hjl hokG
            go_wp2_with (at_builtin; refine wpList_append_own _ rfl _ _ 46 rfl w.heap.size 41 i0 _ 5 72 Try.underlying46 hi0 hz0 hz1 hz2 rfl (by decide) _ _ _ rfl (World.ownsRow.alloc (World.ownsRow.alloc Y6.out _) _) ⟨w6.heap.size + 1, 0, none⟩ 1 1 [.int .i64 rs, .int .i64 rq, .slice a6 rd.length c6, .string rk, .string rl] rfl rfl (World.news_of_block (cs := #[.int .i64 rs, .int .i64 rq, .slice a6 rd.length c6, .string rk, .string rl]) (t := 41) (fr := (0, 0)) (tmp_at _ _)) (five_oneF _ _ _ _ _ _ _) (by unfold maxLen; omega) (by omega) (by simp; omega) ?_; intro v7 w7 hown7 hgrow7 _)
            obtain ⟨a7, c7, rfl⟩ := ownsRow_slice hown7
            have bZ := ((RowKit.Below.refl _ w6).alloc (Nat.le_refl _) (.cells #[.int .i64 rs, .int .i64 rq, .slice a6 rd.length c6, .string rk, .string rl] 41)).alloc (by simp) (.cells #[.int .i64 rs, .int .i64 rq, .slice a6 rd.length c6, .string rk, .string rl] 41)
            have BoZ := Bo6.new bZ
            have yZ := (Y6.out.alloc (.cells #[.int .i64 rs, .int .i64 rq, .slice a6 rd.length c6, .string rk, .string rl] 41)).alloc (.cells #[.int .i64 rs, .int .i64 rq, .slice a6 rd.length c6, .string rk, .string rl] 41)
            have Bo7 := BoZ.grown (rf6.below bZ) hgrow7 (fun r e => own_cells yZ e) HYL.out (BoZ.at_.bel.grown hgrow7 BoZ.size (fun j hj => (yZ.lt j hj).1))
            have XZ := (bZ.block bx (ltAt X6)).trans X6
            have X7 := (grow_keep hgrow7 (fun r e => own_cells yZ e) XZ (fun c => cells_ne (by decide))).trans XZ
            have hl7 := (HL6.out.below bZ).keep (fun k c t e ht => grow_keep hgrow7 (fun r e => own_cells yZ e) e (fun c => cells_ne (by rcases ht with rfl | rfl <;> decide)))
            refine ⟨⟨j + 1, lY ++ [⟨0, ⟨rs, rq, rd, rk, rl⟩, .slice a6 rd.length c6⟩], by omega, by simp [HHLY.out], ?_, ?_, ?_, Bo7, hl7, X7⟩, by simp [lenOfF]; omega⟩
            · rw [List.map_append, HMAP.out, HTK.out]
              rfl
            · rw [List.flatMap_append]
              exact hown7
            · intro q hq
              rcases List.mem_append.1 hq with hq | hq
              · exact HNUM.out q hq
              · obtain rfl := List.mem_singleton.1 hq
                exact HN6.out
          · have hend : (readyL F).take j = (readyL F).take N := by
              rw [List.take_of_length_le (by have := HT.out; omega), List.take_of_length_le (by have := HT.out; omega)]
            have hendF : takesF j F = takesF (min N T) F := by rw [show min N T = j by omega]
            rw [List.getElem?_eq_none (by have := HT.out; omega)] at hfirst
            go_wp2_with fail
            refine (bo_rtake_none hfirst _ Bo4 hokG).mono ?_
            rintro e w6 ⟨v6, rfl, hv6, Bo6, bl6⟩
            obtain ⟨a6, c6, rfl, -⟩ := hv6
            have al6 := bl6.trans (((RowKit.Below.refl _ w6).alloc (Nat.le_refl _) (.cells #[.int .i64 zeroR.site, .int .i64 zeroR.seq, .slice a6 zeroR.dep.length c6, .string zeroR.key, .string zeroR.val] 41)).mono bl6.size)
            have HX := hl4.recs.below al6
            have HY := (show IsRecs wr (.slice ya j yc) ((readyL F).take N) by
              have := IsRecs.ofRow (by rw [hlY]; exact hown) hnum Bo4.at_.bel
              rw [hmap, hend] at this
              exact this).below al6
            have BO9 := Bo4.new al6
            clear hown hnum Bo4 hl4 X4 hmap hlY hfirst hokG Bo6 al6 bl6
            go_wp2_with fail
            refine (sameAll_calls _ _ ((readyL F).take N) _ HX HY (fun r hr => ready_dep HOK.out (List.mem_of_mem_take hr)) (by rw [hTN.out]; omega)).mono ?_
            rintro e w8 ⟨rfl, bl8⟩
            have Bo5 := BO9.new bl8
            rw [hendF] at Bo5
            obtain ⟨G, hG⟩ : ∃ G, takesF (min N T) F = G := ⟨_, rfl⟩
            rw [hG] at Bo5
            clear HX HY BO9 bl8 hendF hend hG
            go_wp2_with fail
            refine (bo_first (firstF G) rfl _ Bo5).mono ?_
            rintro e w6 ⟨v6, rfl, hv6, Bo6, -⟩
            obtain ⟨o, ho⟩ : ∃ o, firstF G = o := ⟨_, rfl⟩
            rw [ho] at hv6 ⊢
            have hIs := hv6.isRec
            obtain ⟨vd6, rfl, hvd6⟩ := hv6
            obtain ⟨r6, hr6⟩ : ∃ r, (o.getD zeroR) = r := ⟨_, rfl⟩
            rw [hr6] at hIs hvd6 ⊢
            have hd6 : r6.dep.length ≤ 1099511627776 := by
              rw [← hr6]
              exact first_dep Bo5.at_.fil.ok ho
            obtain ⟨s6, q6, d6, k6, l6⟩ := r6
            obtain ⟨a6, cp6, rfl⟩ := ownsRow_slice hvd6
            dsimp only at hvd6 hIs hd6 ⊢
            have Hr6 := hide hr6
            have Hd6 := hide hd6
            have HIs := hide hIs
            have Ho := hide ho
            clear hvd6 hr6 hIs ho hd6 Bo5
            go_wp2_with fail
            have al6 := (RowKit.Below.refl _ w6).alloc (Nat.le_refl _) (.cells #[.int .i64 s6, .int .i64 q6, .slice a6 d6.length cp6, .string k6, .string l6] 35)
            have X6 := World.alloc_heap_new w6 (.cells #[.int .i64 s6, .int .i64 q6, .slice a6 d6.length cp6, .string k6, .string l6] 35)
            have Bo7 := Bo6.new al6
            have HI7 := hide (HIs.out.below al6)
            clear HIs
            refine (bo_rfirst o Ho.out _ Bo7 Bo7.at_.fil.ok).mono ?_
            rintro e w8 ⟨v8, rfl, hv8, Bo8, bl8⟩
            rw [Hr6.out] at hv8
            obtain ⟨a8, cp8, rfl, hn8⟩ := hv8
            dsimp only at hn8 ⊢
            have X8 := keepB X6 bl8
            have HI8 := hide (HI7.out.below bl8)
            have Hn8 := hide hn8
            clear HI7 X6 Bo7 al6 Bo6 bl8 hn8
            generalize w6.heap.size = x6 at *
            go_wp2_with fail
            have al8 := (RowKit.Below.refl _ w8).alloc (Nat.le_refl _) (.cells #[.int .i64 s6, .int .i64 q6, .slice a8 d6.length cp8, .string k6, .string l6] 41)
            have X9 := World.alloc_heap_new w8 (.cells #[.int .i64 s6, .int .i64 q6, .slice a8 d6.length cp8, .string k6, .string l6] 41)
            have Y9 := keepB X8 al8
            have Bo9 := Bo8.new al8
            have HI9 := hide (HI8.out.below al8)
            clear HI8 X8 Bo8 al8
            generalize w8.heap.size = x8 at *
            generalize w8.alloc (.cells #[.int .i64 s6, .int .i64 q6, .slice a8 d6.length cp8, .string k6, .string l6] 41) = W9 at *
            obtain ⟨f0, f1, f2, f3, f4, -, -, -, -, -⟩ := cells5F X9
            obtain ⟨g0, g1, g2, g3, g4, -, -, -, -, -⟩ := cells5F Y9
            obtain ⟨lv, lp, hlp, hm9, hr9, -⟩ := Bo9.rf.val
            obtain ⟨lva, lvc, rfl⟩ := ownsRow_slice hr9
            obtain ⟨-, -, m2, m3, -, -, -, -⟩ := cells4F hm9
            have hll : lp.length = G.L.length := by rw [← hlp]; simp
            rw [hll] at m3
            clear hlp hm9 hr9 hll X9 Y9
            replace f0 := cell_regrown f0
            replace f1 := cell_regrown f1
            replace f2 := cell_regrown f2
            replace f3 := cell_regrown f3
            replace f4 := cell_regrown f4
            replace g0 := cell_regrown g0
            replace g1 := cell_regrown g1
            replace g2 := cell_regrown g2
            replace g3 := cell_regrown g3
            replace g4 := cell_regrown g4
            replace m2 := cell_regrown m2
            replace m3 := cell_regrown m3
            have q4 := hide (fun d os => Calls.regrown_of (recOfLaw_calls _ ⟨s6, q6, d6, k6, l6⟩ (grow (redrawn W9 d) os) (HI9.out.below (below_regrown W9 d os))))
            have q5 := hide (fun d os => Calls.regrown_of (refSameRec_calls (.agg #[.int .i64 s6, .int .i64 q6, .slice a6 d6.length cp6, .string k6, .string l6]) (.agg #[.int .i64 s6, .int .i64 q6, .slice a8 d6.length cp8, .string k6, .string l6]) ⟨s6, q6, d6, k6, l6⟩ ⟨s6, q6, d6, k6, l6⟩ (grow (redrawn W9 d) os) (HI9.out.below (below_regrown W9 d os)) ⟨a8, cp8, rfl, (Hn8.out.below Bo9.at_.bel).below (below_regrown W9 d os)⟩ Hd6.out Hd6.out))
            rw [sameR_selfF] at q5
            have q6' := hide (fun d os => Calls.regrown_of ((bo_next (grow (redrawn W9 d) os) (Bo9.new (below_regrown W9 d os))).mono fun e w' ⟨h1, h2⟩ => ⟨h1, by subst h2; exact RowKit.Below.refl _ _⟩))
            have q7 := hide (fun d os => Calls.regrown_of ((bo_len (grow (redrawn W9 d) os) (Bo9.new (below_regrown W9 d os))).mono fun e w' ⟨h1, h2⟩ => ⟨h1, by subst h2; exact RowKit.Below.refl _ _⟩))
            have HBo9 := hide Bo9
            clear Bo9 HI9 Hn8 Hd6
            refine wp_region_quiet_below (by kernel_rfl) (by kernel_rfl) ?_
            first | go_big_quiet_step (fail) | quiet_step (fail)
            first | go_big_quiet_step (fail) | quiet_step (fail)
            first | go_big_quiet_step (fail) | quiet_step (fail)
            first | go_big_quiet_step (fail) | quiet_step (fail)
            first | go_big_quiet_step (fail) | quiet_step (fail)
            first | go_big_quiet_step (exact q4.out _ _) | quiet_step (exact q4.out _ _)
            first | go_big_quiet_step (fail) | quiet_step (fail)
            first | go_big_quiet_step (exact q5.out _ _) | quiet_step (exact q5.out _ _)
            first | go_big_quiet_step (fail) | quiet_step (fail)
            first | go_big_quiet_step (fail) | quiet_step (fail)
            first | go_big_quiet_step (fail) | quiet_step (fail)
            first | go_big_quiet_step (fail) | quiet_step (fail)
            first | go_big_quiet_step (exact q6'.out _ _) | quiet_step (exact q6'.out _ _)
            first | go_big_quiet_step (fail) | quiet_step (fail)
            first | go_big_quiet_step (fail) | quiet_step (fail)
            first | go_big_quiet_step (fail) | quiet_step (fail)
            first | go_big_quiet_step (fail) | quiet_step (fail)
            first | go_big_quiet_step (fail) | quiet_step (fail)
            first | go_big_quiet_step (fail) | quiet_step (fail)
            first | go_big_quiet_step (fail) | quiet_step (fail)
            first | go_big_quiet_step (fail) | quiet_step (fail)
            first | go_big_quiet_step (exact q7.out _ _) | quiet_step (exact q7.out _ _)
            first | go_big_quiet_step (fail) | quiet_step (fail)
            first | go_big_quiet_step (fail) | quiet_step (fail)
            first | go_big_quiet_step (fail) | quiet_step (fail)
            first | go_big_quiet_step (fail) | quiet_step (fail)
            first | go_big_quiet_step (fail) | quiet_step (fail)
            first | go_big_quiet_step (fail) | quiet_step (fail)
            first | go_big_quiet_step (fail) | quiet_step (fail)
            refine wpQuiet_nil ?_
            intro _ hw'
            obtain ⟨⟨dq, osq⟩, hw''⟩ := hw'
            subst hw''
            go_wp2_with fail
            exact ⟨⟨k + 1, p, b, G, rfl, by go_num, by omega, HBo9.out.new (below_regrown W9 dq osq)⟩, by simp [intOf]; omega⟩
        · have hI : ¬ (j : Int) < (N : Int) := by omega
          have hend : (readyL F).take j = (readyL F).take N := by rw [show j = N by omega]
          have hendF : takesF j F = takesF (min N T) F := by rw [show min N T = j by omega]
          have HX : IsRecs wr (.slice xa (min N T) xc) ((readyL F).take N) := hl4.recs
          have HY : IsRecs wr (.slice ya j yc) ((readyL F).take N) := by
            have := IsRecs.ofRow (by rw [hlY]; exact hown) hnum Bo4.at_.bel
            rw [hmap, hend] at this
            exact this
          have BO9 := Bo4
          clear hown hnum Bo4 hl4 X4 hmap hlY hfirst hokG
          go_wp2_with fail
          refine (sameAll_calls _ _ ((readyL F).take N) _ HX HY (fun r hr => ready_dep HOK.out (List.mem_of_mem_take hr)) (by rw [hTN.out]; omega)).mono ?_
          rintro e w8 ⟨rfl, bl8⟩
          have Bo5 := BO9.new bl8
          rw [hendF] at Bo5
          obtain ⟨G, hG⟩ : ∃ G, takesF (min N T) F = G := ⟨_, rfl⟩
          rw [hG] at Bo5
          clear HX HY BO9 bl8 hendF hend hG
          go_wp2_with fail
          refine (bo_first (firstF G) rfl _ Bo5).mono ?_
          rintro e w6 ⟨v6, rfl, hv6, Bo6, -⟩
          obtain ⟨o, ho⟩ : ∃ o, firstF G = o := ⟨_, rfl⟩
          rw [ho] at hv6 ⊢
          have hIs := hv6.isRec
          obtain ⟨vd6, rfl, hvd6⟩ := hv6
          obtain ⟨r6, hr6⟩ : ∃ r, (o.getD zeroR) = r := ⟨_, rfl⟩
          rw [hr6] at hIs hvd6 ⊢
          have hd6 : r6.dep.length ≤ 1099511627776 := by
            rw [← hr6]
            exact first_dep Bo5.at_.fil.ok ho
          obtain ⟨s6, q6, d6, k6, l6⟩ := r6
          obtain ⟨a6, cp6, rfl⟩ := ownsRow_slice hvd6
          dsimp only at hvd6 hIs hd6 ⊢
          have Hr6 := hide hr6
          have Hd6 := hide hd6
          have HIs := hide hIs
          have Ho := hide ho
          clear hvd6 hr6 hIs ho hd6 Bo5
          go_wp2_with fail
          have al6 := (RowKit.Below.refl _ w6).alloc (Nat.le_refl _) (.cells #[.int .i64 s6, .int .i64 q6, .slice a6 d6.length cp6, .string k6, .string l6] 35)
          have X6 := World.alloc_heap_new w6 (.cells #[.int .i64 s6, .int .i64 q6, .slice a6 d6.length cp6, .string k6, .string l6] 35)
          have Bo7 := Bo6.new al6
          have HI7 := hide (HIs.out.below al6)
          clear HIs
          refine (bo_rfirst o Ho.out _ Bo7 Bo7.at_.fil.ok).mono ?_
          rintro e w8 ⟨v8, rfl, hv8, Bo8, bl8⟩
          rw [Hr6.out] at hv8
          obtain ⟨a8, cp8, rfl, hn8⟩ := hv8
          dsimp only at hn8 ⊢
          have X8 := keepB X6 bl8
          have HI8 := hide (HI7.out.below bl8)
          have Hn8 := hide hn8
          clear HI7 X6 Bo7 al6 Bo6 bl8 hn8
          generalize w6.heap.size = x6 at *
          go_wp2_with fail
          have al8 := (RowKit.Below.refl _ w8).alloc (Nat.le_refl _) (.cells #[.int .i64 s6, .int .i64 q6, .slice a8 d6.length cp8, .string k6, .string l6] 41)
          have X9 := World.alloc_heap_new w8 (.cells #[.int .i64 s6, .int .i64 q6, .slice a8 d6.length cp8, .string k6, .string l6] 41)
          have Y9 := keepB X8 al8
          have Bo9 := Bo8.new al8
          have HI9 := hide (HI8.out.below al8)
          clear HI8 X8 Bo8 al8
          generalize w8.heap.size = x8 at *
          generalize w8.alloc (.cells #[.int .i64 s6, .int .i64 q6, .slice a8 d6.length cp8, .string k6, .string l6] 41) = W9 at *
          obtain ⟨f0, f1, f2, f3, f4, -, -, -, -, -⟩ := cells5F X9
          obtain ⟨g0, g1, g2, g3, g4, -, -, -, -, -⟩ := cells5F Y9
          obtain ⟨lv, lp, hlp, hm9, hr9, -⟩ := Bo9.rf.val
          obtain ⟨lva, lvc, rfl⟩ := ownsRow_slice hr9
          obtain ⟨-, -, m2, m3, -, -, -, -⟩ := cells4F hm9
          have hll : lp.length = G.L.length := by rw [← hlp]; simp
          rw [hll] at m3
          clear hlp hm9 hr9 hll X9 Y9
          replace f0 := cell_regrown f0
          replace f1 := cell_regrown f1
          replace f2 := cell_regrown f2
          replace f3 := cell_regrown f3
          replace f4 := cell_regrown f4
          replace g0 := cell_regrown g0
          replace g1 := cell_regrown g1
          replace g2 := cell_regrown g2
          replace g3 := cell_regrown g3
          replace g4 := cell_regrown g4
          replace m2 := cell_regrown m2
          replace m3 := cell_regrown m3
          have q4 := hide (fun d os => Calls.regrown_of (recOfLaw_calls _ ⟨s6, q6, d6, k6, l6⟩ (grow (redrawn W9 d) os) (HI9.out.below (below_regrown W9 d os))))
          have q5 := hide (fun d os => Calls.regrown_of (refSameRec_calls (.agg #[.int .i64 s6, .int .i64 q6, .slice a6 d6.length cp6, .string k6, .string l6]) (.agg #[.int .i64 s6, .int .i64 q6, .slice a8 d6.length cp8, .string k6, .string l6]) ⟨s6, q6, d6, k6, l6⟩ ⟨s6, q6, d6, k6, l6⟩ (grow (redrawn W9 d) os) (HI9.out.below (below_regrown W9 d os)) ⟨a8, cp8, rfl, (Hn8.out.below Bo9.at_.bel).below (below_regrown W9 d os)⟩ Hd6.out Hd6.out))
          rw [sameR_selfF] at q5
          have q6' := hide (fun d os => Calls.regrown_of ((bo_next (grow (redrawn W9 d) os) (Bo9.new (below_regrown W9 d os))).mono fun e w' ⟨h1, h2⟩ => ⟨h1, by subst h2; exact RowKit.Below.refl _ _⟩))
          have q7 := hide (fun d os => Calls.regrown_of ((bo_len (grow (redrawn W9 d) os) (Bo9.new (below_regrown W9 d os))).mono fun e w' ⟨h1, h2⟩ => ⟨h1, by subst h2; exact RowKit.Below.refl _ _⟩))
          have HBo9 := hide Bo9
          clear Bo9 HI9 Hn8 Hd6
          refine wp_region_quiet_below (by kernel_rfl) (by kernel_rfl) ?_
          first | go_big_quiet_step (fail) | quiet_step (fail)
          first | go_big_quiet_step (fail) | quiet_step (fail)
          first | go_big_quiet_step (fail) | quiet_step (fail)
          first | go_big_quiet_step (fail) | quiet_step (fail)
          first | go_big_quiet_step (fail) | quiet_step (fail)
          first | go_big_quiet_step (exact q4.out _ _) | quiet_step (exact q4.out _ _)
          first | go_big_quiet_step (fail) | quiet_step (fail)
          first | go_big_quiet_step (exact q5.out _ _) | quiet_step (exact q5.out _ _)
          first | go_big_quiet_step (fail) | quiet_step (fail)
          first | go_big_quiet_step (fail) | quiet_step (fail)
          first | go_big_quiet_step (fail) | quiet_step (fail)
          first | go_big_quiet_step (fail) | quiet_step (fail)
          first | go_big_quiet_step (exact q6'.out _ _) | quiet_step (exact q6'.out _ _)
          first | go_big_quiet_step (fail) | quiet_step (fail)
          first | go_big_quiet_step (fail) | quiet_step (fail)
          first | go_big_quiet_step (fail) | quiet_step (fail)
          first | go_big_quiet_step (fail) | quiet_step (fail)
          first | go_big_quiet_step (fail) | quiet_step (fail)
          first | go_big_quiet_step (fail) | quiet_step (fail)
          first | go_big_quiet_step (fail) | quiet_step (fail)
          first | go_big_quiet_step (fail) | quiet_step (fail)
          first | go_big_quiet_step (exact q7.out _ _) | quiet_step (exact q7.out _ _)
          first | go_big_quiet_step (fail) | quiet_step (fail)
          first | go_big_quiet_step (fail) | quiet_step (fail)
          first | go_big_quiet_step (fail) | quiet_step (fail)
          first | go_big_quiet_step (fail) | quiet_step (fail)
          first | go_big_quiet_step (fail) | quiet_step (fail)
          first | go_big_quiet_step (fail) | quiet_step (fail)
          first | go_big_quiet_step (fail) | quiet_step (fail)
          refine wpQuiet_nil ?_
          intro _ hw'
          obtain ⟨⟨dq, osq⟩, hw''⟩ := hw'
          subst hw''
          go_wp2_with fail
          exact ⟨⟨k + 1, p, b, G, rfl, by go_num, by omega, HBo9.out.new (below_regrown W9 dq osq)⟩, by simp [intOf]; omega⟩
    by_cases o3 : op = 3
    · subst o3
      go_wp2_with fail
      have al := (RowKit.Below.refl _ wr).alloc (Nat.le_refl _) (.cells #[.int .i64 3, .int .i64 n, .int .i64 site, .int .i64 seq, .slice da dep.length dc, .string key, .string val] 37)
      have X0 := World.alloc_heap_new wr (.cells #[.int .i64 3, .int .i64 n, .int .i64 site, .int .i64 seq, .slice da dep.length dc, .string key, .string val] 37)
      have Bo0 := BO.new al
      have hnw := IsNums.below (hn0) (BO.at_.bel)
      clear al BO
      generalize wr.heap.size = bx at *
      generalize wr.alloc (.cells #[.int .i64 3, .int .i64 n, .int .i64 site, .int .i64 seq, .slice da dep.length dc, .string key, .string val] 37) = W0 at *
      have Bo1 : Bo w W0.drew p b m F F := Bo0.new (RowKit.Below.refl _ W0).drew
      have X1 : W0.drew.heap[bx]? = _ := X0
      clear Bo0 X0
      have z1 : W0.drew.cell? ⟨bx, 1, none⟩ = some (.int .i64 n) := by simpa using cellsAt X1 1
      refine region_headT 9 (fun W => W.cell? ⟨bx, 1, none⟩ = some (.int .i64 n)) (by kernel_rfl) (by decide) ?_
      generalize W0.drew = W1 at *
      refine HeadT.take 0 (.pointer (some ⟨p, 0, none⟩)) rfl (by kernel_rfl) (.inl ⟨rfl, fun w2 s0 => by go_simp⟩) z1 ?_
      refine HeadT.take 1 (.pointer (some ⟨bx, 1, none⟩)) rfl (by kernel_rfl) (.inl ⟨rfl, fun w2 s0 => by go_simp⟩) z1 ?_
      refine HeadT.take 2 (.int .i64 n) rfl (by kernel_rfl) (.inl ⟨rfl, fun w2 s0 => by go_simp⟩) z1 ?_
      refine HeadT.take 4 (.pointer (some ⟨m, 0, none⟩)) rfl (by kernel_rfl) (.inl ⟨rfl, fun w2 s0 => by go_simp⟩) z1 ?_
      refine HeadT.take 5 (.pointer (some ⟨bx, 1, none⟩)) rfl (by kernel_rfl) (.inl ⟨rfl, fun w2 s0 => by go_simp⟩) z1 ?_
      refine HeadT.take 6 (.int .i64 n) rfl (by kernel_rfl) (.inl ⟨rfl, fun w2 s0 => by go_simp⟩) z1 ?_
      refine HeadT.only 3 (by kernel_rfl) ?_
      refine wpOp_call rfl rfl 18 #[.pointer (some ⟨p, 0, none⟩), .int .i64 n] (by go_simp) (bo_reset n W1 Bo1) ?_
      rintro e w4 ⟨rfl, Bo4, kb4⟩
      have X4 := (kb4 bx _ _ _ X1 (by decide) (by decide)).trans X1
      have z4 : w4.cell? ⟨bx, 1, none⟩ = some (.int .i64 n) := by simpa using cellsAt X4 1
      refine ⟨_, rfl, z4, ?_⟩
      refine HeadT.only 7 (by kernel_rfl) ?_
      refine wpOp_call rfl rfl 19 #[.pointer (some ⟨m, 0, none⟩), .int .i64 n] (by go_simp) (bo_rreset n w4 Bo4) ?_
      rintro e w5 ⟨rfl, Bo5, kb5⟩
      have X5 := (kb5 bx _ _ _ X4 (by decide) (by decide)).trans X4
      have z5 : w5.cell? ⟨bx, 1, none⟩ = some (.int .i64 n) := by simpa using cellsAt X5 1
      refine ⟨_, rfl, z5, ?_⟩
      refine HeadT.take 8 (.bool false) rfl (by kernel_rfl) (.inl ⟨rfl, fun w2 s0 => by go_simp⟩) z5 ?_
      refine HeadT.tail rfl (by kernel_rfl) ?_
      simp only [List.drop_succ_cons, List.drop_zero]
      obtain ⟨G, hG⟩ : ∃ G, resetF F n = G := ⟨_, rfl⟩
      rw [hG] at Bo5
      clear z1 z4 z5 X1 X4 X5 kb4 kb5 Bo1 Bo4 hOK
      go_wp2_with fail
      simp only [noPanic]
      go_simp
      go_wp2_with fail
      refine (bo_first (firstF G) rfl _ Bo5).mono ?_
      rintro e w6 ⟨v6, rfl, hv6, Bo6, -⟩
      obtain ⟨o, ho⟩ : ∃ o, firstF G = o := ⟨_, rfl⟩
      rw [ho] at hv6 ⊢
      have hIs := hv6.isRec
      obtain ⟨vd6, rfl, hvd6⟩ := hv6
      obtain ⟨r6, hr6⟩ : ∃ r, (o.getD zeroR) = r := ⟨_, rfl⟩
      rw [hr6] at hIs hvd6 ⊢
      have hd6 : r6.dep.length ≤ 1099511627776 := by
        rw [← hr6]
        exact first_dep Bo5.at_.fil.ok ho
      obtain ⟨s6, q6, d6, k6, l6⟩ := r6
      obtain ⟨a6, cp6, rfl⟩ := ownsRow_slice hvd6
      dsimp only at hvd6 hIs hd6 ⊢
      have Hr6 := hide hr6
      have Hd6 := hide hd6
      have HIs := hide hIs
      have Ho := hide ho
      clear hvd6 hr6 hIs ho hd6 Bo5
      go_wp2_with fail
      have al6 := (RowKit.Below.refl _ w6).alloc (Nat.le_refl _) (.cells #[.int .i64 s6, .int .i64 q6, .slice a6 d6.length cp6, .string k6, .string l6] 35)
      have X6 := World.alloc_heap_new w6 (.cells #[.int .i64 s6, .int .i64 q6, .slice a6 d6.length cp6, .string k6, .string l6] 35)
      have Bo7 := Bo6.new al6
      have HI7 := hide (HIs.out.below al6)
      clear HIs
      refine (bo_rfirst o Ho.out _ Bo7 Bo7.at_.fil.ok).mono ?_
      rintro e w8 ⟨v8, rfl, hv8, Bo8, bl8⟩
      rw [Hr6.out] at hv8
      obtain ⟨a8, cp8, rfl, hn8⟩ := hv8
      dsimp only at hn8 ⊢
      have X8 := keepB X6 bl8
      have HI8 := hide (HI7.out.below bl8)
      have Hn8 := hide hn8
      clear HI7 X6 Bo7 al6 Bo6 bl8 hn8
      generalize w6.heap.size = x6 at *
      go_wp2_with fail
      have al8 := (RowKit.Below.refl _ w8).alloc (Nat.le_refl _) (.cells #[.int .i64 s6, .int .i64 q6, .slice a8 d6.length cp8, .string k6, .string l6] 41)
      have X9 := World.alloc_heap_new w8 (.cells #[.int .i64 s6, .int .i64 q6, .slice a8 d6.length cp8, .string k6, .string l6] 41)
      have Y9 := keepB X8 al8
      have Bo9 := Bo8.new al8
      have HI9 := hide (HI8.out.below al8)
      clear HI8 X8 Bo8 al8
      generalize w8.heap.size = x8 at *
      generalize w8.alloc (.cells #[.int .i64 s6, .int .i64 q6, .slice a8 d6.length cp8, .string k6, .string l6] 41) = W9 at *
      obtain ⟨f0, f1, f2, f3, f4, -, -, -, -, -⟩ := cells5F X9
      obtain ⟨g0, g1, g2, g3, g4, -, -, -, -, -⟩ := cells5F Y9
      obtain ⟨lv, lp, hlp, hm9, hr9, -⟩ := Bo9.rf.val
      obtain ⟨lva, lvc, rfl⟩ := ownsRow_slice hr9
      obtain ⟨-, -, m2, m3, -, -, -, -⟩ := cells4F hm9
      have hll : lp.length = G.L.length := by rw [← hlp]; simp
      rw [hll] at m3
      clear hlp hm9 hr9 hll X9 Y9
      replace f0 := cell_regrown f0
      replace f1 := cell_regrown f1
      replace f2 := cell_regrown f2
      replace f3 := cell_regrown f3
      replace f4 := cell_regrown f4
      replace g0 := cell_regrown g0
      replace g1 := cell_regrown g1
      replace g2 := cell_regrown g2
      replace g3 := cell_regrown g3
      replace g4 := cell_regrown g4
      replace m2 := cell_regrown m2
      replace m3 := cell_regrown m3
      have q4 := hide (fun d os => Calls.regrown_of (recOfLaw_calls _ ⟨s6, q6, d6, k6, l6⟩ (grow (redrawn W9 d) os) (HI9.out.below (below_regrown W9 d os))))
      have q5 := hide (fun d os => Calls.regrown_of (refSameRec_calls (.agg #[.int .i64 s6, .int .i64 q6, .slice a6 d6.length cp6, .string k6, .string l6]) (.agg #[.int .i64 s6, .int .i64 q6, .slice a8 d6.length cp8, .string k6, .string l6]) ⟨s6, q6, d6, k6, l6⟩ ⟨s6, q6, d6, k6, l6⟩ (grow (redrawn W9 d) os) (HI9.out.below (below_regrown W9 d os)) ⟨a8, cp8, rfl, (Hn8.out.below Bo9.at_.bel).below (below_regrown W9 d os)⟩ Hd6.out Hd6.out))
      rw [sameR_selfF] at q5
      have q6' := hide (fun d os => Calls.regrown_of ((bo_next (grow (redrawn W9 d) os) (Bo9.new (below_regrown W9 d os))).mono fun e w' ⟨h1, h2⟩ => ⟨h1, by subst h2; exact RowKit.Below.refl _ _⟩))
      have q7 := hide (fun d os => Calls.regrown_of ((bo_len (grow (redrawn W9 d) os) (Bo9.new (below_regrown W9 d os))).mono fun e w' ⟨h1, h2⟩ => ⟨h1, by subst h2; exact RowKit.Below.refl _ _⟩))
      have HBo9 := hide Bo9
      clear Bo9 HI9 Hn8 Hd6
      refine wp_region_quiet_below (by kernel_rfl) (by kernel_rfl) ?_
      first | go_big_quiet_step (fail) | quiet_step (fail)
      first | go_big_quiet_step (fail) | quiet_step (fail)
      first | go_big_quiet_step (fail) | quiet_step (fail)
      first | go_big_quiet_step (fail) | quiet_step (fail)
      first | go_big_quiet_step (fail) | quiet_step (fail)
      first | go_big_quiet_step (exact q4.out _ _) | quiet_step (exact q4.out _ _)
      first | go_big_quiet_step (fail) | quiet_step (fail)
      first | go_big_quiet_step (exact q5.out _ _) | quiet_step (exact q5.out _ _)
      first | go_big_quiet_step (fail) | quiet_step (fail)
      first | go_big_quiet_step (fail) | quiet_step (fail)
      first | go_big_quiet_step (fail) | quiet_step (fail)
      first | go_big_quiet_step (fail) | quiet_step (fail)
      first | go_big_quiet_step (exact q6'.out _ _) | quiet_step (exact q6'.out _ _)
      first | go_big_quiet_step (fail) | quiet_step (fail)
      first | go_big_quiet_step (fail) | quiet_step (fail)
      first | go_big_quiet_step (fail) | quiet_step (fail)
      first | go_big_quiet_step (fail) | quiet_step (fail)
      first | go_big_quiet_step (fail) | quiet_step (fail)
      first | go_big_quiet_step (fail) | quiet_step (fail)
      first | go_big_quiet_step (fail) | quiet_step (fail)
      first | go_big_quiet_step (fail) | quiet_step (fail)
      first | go_big_quiet_step (exact q7.out _ _) | quiet_step (exact q7.out _ _)
      first | go_big_quiet_step (fail) | quiet_step (fail)
      first | go_big_quiet_step (fail) | quiet_step (fail)
      first | go_big_quiet_step (fail) | quiet_step (fail)
      first | go_big_quiet_step (fail) | quiet_step (fail)
      first | go_big_quiet_step (fail) | quiet_step (fail)
      first | go_big_quiet_step (fail) | quiet_step (fail)
      first | go_big_quiet_step (fail) | quiet_step (fail)
      refine wpQuiet_nil ?_
      intro _ hw'
      obtain ⟨⟨dq, osq⟩, hw''⟩ := hw'
      subst hw''
      go_wp2_with fail
      exact ⟨⟨k + 1, p, b, G, rfl, by go_num, by omega, HBo9.out.new (below_regrown W9 dq osq)⟩, by simp [intOf]; omega⟩
    by_cases o4 : op = 4
    · subst o4
      go_wp2_with fail
      have al := (RowKit.Below.refl _ wr).alloc (Nat.le_refl _) (.cells #[.int .i64 4, .int .i64 n, .int .i64 site, .int .i64 seq, .slice da dep.length dc, .string key, .string val] 37)
      have Bo0 := BO.new al
      clear al BO
      generalize wr.alloc (.cells #[.int .i64 4, .int .i64 n, .int .i64 site, .int .i64 seq, .slice da dep.length dc, .string key, .string val] 37) = W0 at *
      refine (bo_twin W0 Bo0).mono ?_
      rintro e w4 ⟨p', b', rfl, Bo3, Bo4, hp1, hb1, -⟩
      have hpp : p' ≠ p := by have := Bo0.at_.fil.lt; omega
      have hbb : b' ≠ b := by have := Bo0.at_.fil.ltb; omega
      clear Bo0 hp1 hb1 hOK
      go_wp2_with fail
      refine (filReset_calls p b F 7 _ _ rfl rfl w4 Bo3.at_.fil).mono ?_
      rintro e w5 ⟨rfl, -, t5⟩
      have Bo5 := Bo4.off Bo3 t5 hpp hbb
      clear Bo3 Bo4 t5 hpp hbb
      obtain ⟨G, hG⟩ : ∃ G, F = G := ⟨_, rfl⟩
      rw [hG] at Bo5
      clear hG
      generalize p' = p at *
      generalize b' = b at *
      go_wp2_with fail
      refine (bo_first (firstF G) rfl _ Bo5).mono ?_
      rintro e w6 ⟨v6, rfl, hv6, Bo6, -⟩
      obtain ⟨o, ho⟩ : ∃ o, firstF G = o := ⟨_, rfl⟩
      rw [ho] at hv6 ⊢
      have hIs := hv6.isRec
      obtain ⟨vd6, rfl, hvd6⟩ := hv6
      obtain ⟨r6, hr6⟩ : ∃ r, (o.getD zeroR) = r := ⟨_, rfl⟩
      rw [hr6] at hIs hvd6 ⊢
      have hd6 : r6.dep.length ≤ 1099511627776 := by
        rw [← hr6]
        exact first_dep Bo5.at_.fil.ok ho
      obtain ⟨s6, q6, d6, k6, l6⟩ := r6
      obtain ⟨a6, cp6, rfl⟩ := ownsRow_slice hvd6
      dsimp only at hvd6 hIs hd6 ⊢
      have Hr6 := hide hr6
      have Hd6 := hide hd6
      have HIs := hide hIs
      have Ho := hide ho
      clear hvd6 hr6 hIs ho hd6 Bo5
      go_wp2_with fail
      have al6 := (RowKit.Below.refl _ w6).alloc (Nat.le_refl _) (.cells #[.int .i64 s6, .int .i64 q6, .slice a6 d6.length cp6, .string k6, .string l6] 35)
      have X6 := World.alloc_heap_new w6 (.cells #[.int .i64 s6, .int .i64 q6, .slice a6 d6.length cp6, .string k6, .string l6] 35)
      have Bo7 := Bo6.new al6
      have HI7 := hide (HIs.out.below al6)
      clear HIs
      refine (bo_rfirst o Ho.out _ Bo7 Bo7.at_.fil.ok).mono ?_
      rintro e w8 ⟨v8, rfl, hv8, Bo8, bl8⟩
      rw [Hr6.out] at hv8
      obtain ⟨a8, cp8, rfl, hn8⟩ := hv8
      dsimp only at hn8 ⊢
      have X8 := keepB X6 bl8
      have HI8 := hide (HI7.out.below bl8)
      have Hn8 := hide hn8
      clear HI7 X6 Bo7 al6 Bo6 bl8 hn8
      generalize w6.heap.size = x6 at *
      go_wp2_with fail
      have al8 := (RowKit.Below.refl _ w8).alloc (Nat.le_refl _) (.cells #[.int .i64 s6, .int .i64 q6, .slice a8 d6.length cp8, .string k6, .string l6] 41)
      have X9 := World.alloc_heap_new w8 (.cells #[.int .i64 s6, .int .i64 q6, .slice a8 d6.length cp8, .string k6, .string l6] 41)
      have Y9 := keepB X8 al8
      have Bo9 := Bo8.new al8
      have HI9 := hide (HI8.out.below al8)
      clear HI8 X8 Bo8 al8
      generalize w8.heap.size = x8 at *
      generalize w8.alloc (.cells #[.int .i64 s6, .int .i64 q6, .slice a8 d6.length cp8, .string k6, .string l6] 41) = W9 at *
      obtain ⟨f0, f1, f2, f3, f4, -, -, -, -, -⟩ := cells5F X9
      obtain ⟨g0, g1, g2, g3, g4, -, -, -, -, -⟩ := cells5F Y9
      obtain ⟨lv, lp, hlp, hm9, hr9, -⟩ := Bo9.rf.val
      obtain ⟨lva, lvc, rfl⟩ := ownsRow_slice hr9
      obtain ⟨-, -, m2, m3, -, -, -, -⟩ := cells4F hm9
      have hll : lp.length = G.L.length := by rw [← hlp]; simp
      rw [hll] at m3
      clear hlp hm9 hr9 hll X9 Y9
      replace f0 := cell_regrown f0
      replace f1 := cell_regrown f1
      replace f2 := cell_regrown f2
      replace f3 := cell_regrown f3
      replace f4 := cell_regrown f4
      replace g0 := cell_regrown g0
      replace g1 := cell_regrown g1
      replace g2 := cell_regrown g2
      replace g3 := cell_regrown g3
      replace g4 := cell_regrown g4
      replace m2 := cell_regrown m2
      replace m3 := cell_regrown m3
      have q4 := hide (fun d os => Calls.regrown_of (recOfLaw_calls _ ⟨s6, q6, d6, k6, l6⟩ (grow (redrawn W9 d) os) (HI9.out.below (below_regrown W9 d os))))
      have q5 := hide (fun d os => Calls.regrown_of (refSameRec_calls (.agg #[.int .i64 s6, .int .i64 q6, .slice a6 d6.length cp6, .string k6, .string l6]) (.agg #[.int .i64 s6, .int .i64 q6, .slice a8 d6.length cp8, .string k6, .string l6]) ⟨s6, q6, d6, k6, l6⟩ ⟨s6, q6, d6, k6, l6⟩ (grow (redrawn W9 d) os) (HI9.out.below (below_regrown W9 d os)) ⟨a8, cp8, rfl, (Hn8.out.below Bo9.at_.bel).below (below_regrown W9 d os)⟩ Hd6.out Hd6.out))
      rw [sameR_selfF] at q5
      have q6' := hide (fun d os => Calls.regrown_of ((bo_next (grow (redrawn W9 d) os) (Bo9.new (below_regrown W9 d os))).mono fun e w' ⟨h1, h2⟩ => ⟨h1, by subst h2; exact RowKit.Below.refl _ _⟩))
      have q7 := hide (fun d os => Calls.regrown_of ((bo_len (grow (redrawn W9 d) os) (Bo9.new (below_regrown W9 d os))).mono fun e w' ⟨h1, h2⟩ => ⟨h1, by subst h2; exact RowKit.Below.refl _ _⟩))
      have HBo9 := hide Bo9
      clear Bo9 HI9 Hn8 Hd6
      refine wp_region_quiet_below (by kernel_rfl) (by kernel_rfl) ?_
      first | go_big_quiet_step (fail) | quiet_step (fail)
      first | go_big_quiet_step (fail) | quiet_step (fail)
      first | go_big_quiet_step (fail) | quiet_step (fail)
      first | go_big_quiet_step (fail) | quiet_step (fail)
      first | go_big_quiet_step (fail) | quiet_step (fail)
      first | go_big_quiet_step (exact q4.out _ _) | quiet_step (exact q4.out _ _)
      first | go_big_quiet_step (fail) | quiet_step (fail)
      first | go_big_quiet_step (exact q5.out _ _) | quiet_step (exact q5.out _ _)
      first | go_big_quiet_step (fail) | quiet_step (fail)
      first | go_big_quiet_step (fail) | quiet_step (fail)
      first | go_big_quiet_step (fail) | quiet_step (fail)
      first | go_big_quiet_step (fail) | quiet_step (fail)
      first | go_big_quiet_step (exact q6'.out _ _) | quiet_step (exact q6'.out _ _)
      first | go_big_quiet_step (fail) | quiet_step (fail)
      first | go_big_quiet_step (fail) | quiet_step (fail)
      first | go_big_quiet_step (fail) | quiet_step (fail)
      first | go_big_quiet_step (fail) | quiet_step (fail)
      first | go_big_quiet_step (fail) | quiet_step (fail)
      first | go_big_quiet_step (fail) | quiet_step (fail)
      first | go_big_quiet_step (fail) | quiet_step (fail)
      first | go_big_quiet_step (fail) | quiet_step (fail)
      first | go_big_quiet_step (exact q7.out _ _) | quiet_step (exact q7.out _ _)
      first | go_big_quiet_step (fail) | quiet_step (fail)
      first | go_big_quiet_step (fail) | quiet_step (fail)
      first | go_big_quiet_step (fail) | quiet_step (fail)
      first | go_big_quiet_step (fail) | quiet_step (fail)
      first | go_big_quiet_step (fail) | quiet_step (fail)
      first | go_big_quiet_step (fail) | quiet_step (fail)
      first | go_big_quiet_step (fail) | quiet_step (fail)
      refine wpQuiet_nil ?_
      intro _ hw'
      obtain ⟨⟨dq, osq⟩, hw''⟩ := hw'
      subst hw''
      go_wp2_with fail
      exact ⟨⟨k + 1, p, b, G, rfl, by go_num, by omega, HBo9.out.new (below_regrown W9 dq osq)⟩, by simp [intOf]; omega⟩
    go_wp2_with fail
    have al := (RowKit.Below.refl _ wr).alloc (Nat.le_refl _) (.cells #[.int .i64 op, .int .i64 n, .int .i64 site, .int .i64 seq, .slice da dep.length dc, .string key, .string val] 37)
    have Bo5 := BO.new al
    obtain ⟨G, hG⟩ : ∃ G, F = G := ⟨_, rfl⟩
    rw [hG] at Bo5
    clear al BO hOK
    refine (bo_first (firstF G) rfl _ Bo5).mono ?_
    rintro e w6 ⟨v6, rfl, hv6, Bo6, -⟩
    obtain ⟨o, ho⟩ : ∃ o, firstF G = o := ⟨_, rfl⟩
    rw [ho] at hv6 ⊢
    have hIs := hv6.isRec
    obtain ⟨vd6, rfl, hvd6⟩ := hv6
    obtain ⟨r6, hr6⟩ : ∃ r, (o.getD zeroR) = r := ⟨_, rfl⟩
    rw [hr6] at hIs hvd6 ⊢
    have hd6 : r6.dep.length ≤ 1099511627776 := by
      rw [← hr6]
      exact first_dep Bo5.at_.fil.ok ho
    obtain ⟨s6, q6, d6, k6, l6⟩ := r6
    obtain ⟨a6, cp6, rfl⟩ := ownsRow_slice hvd6
    dsimp only at hvd6 hIs hd6 ⊢
    have Hr6 := hide hr6
    have Hd6 := hide hd6
    have HIs := hide hIs
    have Ho := hide ho
    clear hvd6 hr6 hIs ho hd6 Bo5
    go_wp2_with fail
    have al6 := (RowKit.Below.refl _ w6).alloc (Nat.le_refl _) (.cells #[.int .i64 s6, .int .i64 q6, .slice a6 d6.length cp6, .string k6, .string l6] 35)
    have X6 := World.alloc_heap_new w6 (.cells #[.int .i64 s6, .int .i64 q6, .slice a6 d6.length cp6, .string k6, .string l6] 35)
    have Bo7 := Bo6.new al6
    have HI7 := hide (HIs.out.below al6)
    clear HIs
    refine (bo_rfirst o Ho.out _ Bo7 Bo7.at_.fil.ok).mono ?_
    rintro e w8 ⟨v8, rfl, hv8, Bo8, bl8⟩
    rw [Hr6.out] at hv8
    obtain ⟨a8, cp8, rfl, hn8⟩ := hv8
    dsimp only at hn8 ⊢
    have X8 := keepB X6 bl8
    have HI8 := hide (HI7.out.below bl8)
    have Hn8 := hide hn8
    clear HI7 X6 Bo7 al6 Bo6 bl8 hn8
    generalize w6.heap.size = x6 at *
    go_wp2_with fail
    have al8 := (RowKit.Below.refl _ w8).alloc (Nat.le_refl _) (.cells #[.int .i64 s6, .int .i64 q6, .slice a8 d6.length cp8, .string k6, .string l6] 41)
    have X9 := World.alloc_heap_new w8 (.cells #[.int .i64 s6, .int .i64 q6, .slice a8 d6.length cp8, .string k6, .string l6] 41)
    have Y9 := keepB X8 al8
    have Bo9 := Bo8.new al8
    have HI9 := hide (HI8.out.below al8)
    clear HI8 X8 Bo8 al8
    generalize w8.heap.size = x8 at *
    generalize w8.alloc (.cells #[.int .i64 s6, .int .i64 q6, .slice a8 d6.length cp8, .string k6, .string l6] 41) = W9 at *
    obtain ⟨f0, f1, f2, f3, f4, -, -, -, -, -⟩ := cells5F X9
    obtain ⟨g0, g1, g2, g3, g4, -, -, -, -, -⟩ := cells5F Y9
    obtain ⟨lv, lp, hlp, hm9, hr9, -⟩ := Bo9.rf.val
    obtain ⟨lva, lvc, rfl⟩ := ownsRow_slice hr9
    obtain ⟨-, -, m2, m3, -, -, -, -⟩ := cells4F hm9
    have hll : lp.length = G.L.length := by rw [← hlp]; simp
    rw [hll] at m3
    clear hlp hm9 hr9 hll X9 Y9
    replace f0 := cell_regrown f0
    replace f1 := cell_regrown f1
    replace f2 := cell_regrown f2
    replace f3 := cell_regrown f3
    replace f4 := cell_regrown f4
    replace g0 := cell_regrown g0
    replace g1 := cell_regrown g1
    replace g2 := cell_regrown g2
    replace g3 := cell_regrown g3
    replace g4 := cell_regrown g4
    replace m2 := cell_regrown m2
    replace m3 := cell_regrown m3
    have q4 := hide (fun d os => Calls.regrown_of (recOfLaw_calls _ ⟨s6, q6, d6, k6, l6⟩ (grow (redrawn W9 d) os) (HI9.out.below (below_regrown W9 d os))))
    have q5 := hide (fun d os => Calls.regrown_of (refSameRec_calls (.agg #[.int .i64 s6, .int .i64 q6, .slice a6 d6.length cp6, .string k6, .string l6]) (.agg #[.int .i64 s6, .int .i64 q6, .slice a8 d6.length cp8, .string k6, .string l6]) ⟨s6, q6, d6, k6, l6⟩ ⟨s6, q6, d6, k6, l6⟩ (grow (redrawn W9 d) os) (HI9.out.below (below_regrown W9 d os)) ⟨a8, cp8, rfl, (Hn8.out.below Bo9.at_.bel).below (below_regrown W9 d os)⟩ Hd6.out Hd6.out))
    rw [sameR_selfF] at q5
    have q6' := hide (fun d os => Calls.regrown_of ((bo_next (grow (redrawn W9 d) os) (Bo9.new (below_regrown W9 d os))).mono fun e w' ⟨h1, h2⟩ => ⟨h1, by subst h2; exact RowKit.Below.refl _ _⟩))
    have q7 := hide (fun d os => Calls.regrown_of ((bo_len (grow (redrawn W9 d) os) (Bo9.new (below_regrown W9 d os))).mono fun e w' ⟨h1, h2⟩ => ⟨h1, by subst h2; exact RowKit.Below.refl _ _⟩))
    have HBo9 := hide Bo9
    clear Bo9 HI9 Hn8 Hd6
    refine wp_region_quiet_below (by kernel_rfl) (by kernel_rfl) ?_
    first | go_big_quiet_step (fail) | quiet_step (fail)
    first | go_big_quiet_step (fail) | quiet_step (fail)
    first | go_big_quiet_step (fail) | quiet_step (fail)
    first | go_big_quiet_step (fail) | quiet_step (fail)
    first | go_big_quiet_step (fail) | quiet_step (fail)
    first | go_big_quiet_step (exact q4.out _ _) | quiet_step (exact q4.out _ _)
    first | go_big_quiet_step (fail) | quiet_step (fail)
    first | go_big_quiet_step (exact q5.out _ _) | quiet_step (exact q5.out _ _)
    first | go_big_quiet_step (fail) | quiet_step (fail)
    first | go_big_quiet_step (fail) | quiet_step (fail)
    first | go_big_quiet_step (fail) | quiet_step (fail)
    first | go_big_quiet_step (fail) | quiet_step (fail)
    first | go_big_quiet_step (exact q6'.out _ _) | quiet_step (exact q6'.out _ _)
    first | go_big_quiet_step (fail) | quiet_step (fail)
    first | go_big_quiet_step (fail) | quiet_step (fail)
    first | go_big_quiet_step (fail) | quiet_step (fail)
    first | go_big_quiet_step (fail) | quiet_step (fail)
    first | go_big_quiet_step (fail) | quiet_step (fail)
    first | go_big_quiet_step (fail) | quiet_step (fail)
    first | go_big_quiet_step (fail) | quiet_step (fail)
    first | go_big_quiet_step (fail) | quiet_step (fail)
    first | go_big_quiet_step (exact q7.out _ _) | quiet_step (exact q7.out _ _)
    first | go_big_quiet_step (fail) | quiet_step (fail)
    first | go_big_quiet_step (fail) | quiet_step (fail)
    first | go_big_quiet_step (fail) | quiet_step (fail)
    first | go_big_quiet_step (fail) | quiet_step (fail)
    first | go_big_quiet_step (fail) | quiet_step (fail)
    first | go_big_quiet_step (fail) | quiet_step (fail)
    first | go_big_quiet_step (fail) | quiet_step (fail)
    refine wpQuiet_nil ?_
    intro _ hw'
    obtain ⟨⟨dq, osq⟩, hw''⟩ := hw'
    subst hw''
    go_wp2_with fail
    exact ⟨⟨k + 1, p, b, G, rfl, by go_num, by omega, HBo9.out.new (below_regrown W9 dq osq)⟩, by simp [intOf]; omega⟩

end Go.Proofs.Ytompaldhnbcikaa
