/- filter's Ready: its sequence. Own work; no statement. -/
import Derived.Test.YtompaldhnbcikaaF7
import Derived.Test.YtompaldhnbcikaaF8
set_option linter.unusedSimpArgs false
set_option linter.unusedVariables false
namespace Go.Proofs.Ytompaldhnbcikaa
open Go.RowKit Go.Shelf

attribute [local go_sem] Oper.semAt_some

theorem wrap64_mid' (n : Int) (h : -9223372036854775808 ≤ n) (h' : n ≤ 9223372036854775807) : wrap64 n = n := by unfold wrap64; omega

/-- One taken away. -/
theorem fil_take {w : World} {p b : Nat} {F : FilD} {r : RecD} (hf : IsFil w p b F) (hr : firstF F = some r) :
    ∃ w1, (∀ ty, (Builtin.delete_ #[67, 3] ty #[.map (some b), .int .i64 r.seq]).run Try.prog w = .ok (.tuple #[]) w1) ∧ w1.heap[p]? = w.heap[p]? ∧ Touch (fun x => x = b) w w1 ∧
      IsFil (w1.setCell ⟨p, 2, none⟩ (.int .i64 (F.next + 1))) p b (takeF F) := by
  obtain ⟨M, m1, m2, m3⟩ := hf.held
  have hs := (firstF_some hr).2
  have hp : (M.map fun x => (x.1.seq, x.2)).Pairwise fun x y => x.1 ≠ y.1 := by
    have := hf.ok.apart
    rw [← m1, List.pairwise_map] at this
    rw [List.pairwise_map]
    exact this
  obtain ⟨w1, h1, h2, h3⟩ := map_delete (P := Try.prog) Try.underlying67 Try.underlying3 r.seq 0 m2 hp
  have hk : ∀ (k : Nat) (c : Array Value), w.heap[k]? = some (.cells c 3 (0, 0)) → w1.heap[k]? = w.heap[k]? := fun k c e => h3.block k (ltAt e) (by rintro rfl; exact m2.not_cells e)
  have hpp := h3.block p hf.lt hf.ne
  refine ⟨w1, fun _ => h1, hpp, h3, takeF_ok hf.ok hr, ?_, M.filter fun x => decide (x.1.seq ≠ F.next), ?_, ?_, ?_⟩
  · have := setAt (j := 2) (hpp.trans hf.head) (.int .i64 (F.next + 1))
    exact this
  · unfold takeF
    dsimp only
    rw [← m1, List.filter_map]
    rfl
  · refine MapAt.keep ?_ (Below.heap_setCell _ _ _ _ hf.ne.symm)
    rw [hs] at h2
    rw [List.filter_map] at h2
    exact h2
  · intro x hx
    refine ((m3 x (List.mem_filter.1 hx).1).keep hk).keep fun k c e => Below.heap_setCell _ _ _ _ ?_
    rintro rfl
    rw [hpp, hf.head] at e
    simp only [Option.some.injEq, Obj.cells.injEq] at e
    exact absurd e.2.1 (by decide)

/-- Who asks lets the filter's blocks alone, and all rows of numbers. -/
def KpF (p b bx : Nat) (A C : World) : Prop := (∀ c, c = p ∨ c = b ∨ c = bx → C.heap[c]? = A.heap[c]?) ∧ ∀ (k : Nat) (c : Array Value), A.heap[k]? = some (.cells c 3 (0, 0)) → C.heap[k]? = A.heap[k]?
theorem kpF_t {p b bx : Nat} {A B C : World} (h : KpF p b bx A B) (k : KpF p b bx B C) : KpF p b bx A C := ⟨fun c hc => (k.1 c hc).trans (h.1 c hc), fun i c e => (k.2 i c ((h.2 i c e).trans e)).trans (h.2 i c e)⟩
theorem kpF_b {p b bx m : Nat} (h1 : p < m) (h2 : b < m) (h3 : bx < m) (W : World) (l : Nat) (o o' : Obj) (hl : m ≤ l) (ho : W.heap[l]? = some o) (hc : o.isCells = false) (_ : o.isWalk = false) : KpF p b bx W (W.putObj l o') := by
  refine ⟨fun c hc => World.putObj_heap_other (by rcases hc with rfl | rfl | rfl <;> omega), fun k c e => World.putObj_heap_other ?_⟩
  rintro rfl
  rw [ho] at e
  cases e
  cases hc
theorem kpF_n {p b bx : Nat} {A C : World} (h : Below A.heap.size A C) (h1 : p < A.heap.size) (h2 : b < A.heap.size) (h3 : bx < A.heap.size) : KpF p b bx A C :=
  ⟨fun c hc => h.block c (by rcases hc with rfl | rfl | rfl <;> assumption), fun k c e => h.block k (ltAt e)⟩

/-- The filter, so many taken, and the box that Ready's sequence goes by. -/
def StF (p b bx : Nat) (F : FilD) (k : Nat) (W : World) : Prop := IsFil W p b (takesF k F) ∧ Boxed W bx 25 (.pointer (some ⟨p, 0, none⟩))
theorem StF.kp {p b bx : Nat} {F : FilD} {k : Nat} {A C : World} (h : StF p b bx F k A) (hk : KpF p b bx A C) : StF p b bx F k C :=
  ⟨h.1.keep' (hk.1 p (.inl rfl)) (hk.1 b (.inr (.inl rfl))) hk.2, boxed_of_heap h.2 (hk.1 bx (.inr (.inr rfl)))⟩
theorem StF.below {p b bx : Nat} {F : FilD} {k : Nat} {A C : World} (h : StF p b bx F k A) (hb : Below A.heap.size A C) : StF p b bx F k C := h.kp (kpF_n hb h.1.lt h.1.ltb h.2.lt)
theorem StF.own {p b bx : Nat} {F : FilD} {n : Nat} (hbn : b < n) : OwnFrom n (StF p b bx F) := by
  rintro k A C row h hg hr
  refine h.kp ⟨fun c hc => ?_, fun i c e => own_keeps hg (fun r e => (hr r e).2) e⟩
  rcases hc with rfl | rfl | rfl
  · rw [own_keeps hg (fun r e => (hr r e).2) h.1.head]
  · exact hg.block _ h.1.ltb fun e => by have := (hr _ e.symm).1; omega
  · rw [own_keeps hg (fun r e => (hr r e).2) h.2]
/-- What is handed over: the next of those that are ready. -/
def GvF (F : FilD) (k : Nat) (v : Value) (W : World) : Prop := ∃ r, (readyL F)[k]? = some r ∧ OwnRec 0 W v r
theorem GvF.keep {F : FilD} {k : Nat} {v : Value} {A C : World} (h : GvF F k v A) (hk : ∀ (k : Nat) (c : Array Value), A.heap[k]? = some (.cells c 3 (0, 0)) → C.heap[k]? = A.heap[k]?) : GvF F k v C := by
  obtain ⟨r, h1, h2⟩ := h
  exact ⟨r, h1, h2.keep hk⟩
theorem GvF.own {F : FilD} {n : Nat} (v : Value) : OwnFrom n fun k => GvF F k v := fun k A C row h hg hr => h.keep fun i c e => own_keeps hg (fun r e => (hr r e).2) e

set_option maxRecDepth 100000 in
set_option maxHeartbeats 4000000 in
theorem ready_seq (bx p b : Nat) (F : FilD) (w : World) (hs : StF p b bx F 0 w) :
    SeqQ 8 Try.prog 43 #[.pointer (some ⟨bx, 0, none⟩)] (onFil p b) (KpF p b bx) (StF p b bx F) (GvF F) (fun k => k = (readyL F).length) w := by
  intro lp J Jx W hW hJo hJxo hJT hJX hY h0
  have hs := hs.below hW
  have hok := hs.1.ok
  replace hok : F.ok := hok
  have hpl := hs.1.lt
  have hbl := hs.1.ltb
  have hxl := hs.2.lt
  have HY := hide (fun k T A v h1 h2 h3 n' => yield_any (m := 8 - 1) n' (hY k T A v h1 h2 h3))
  have HJ := hide hJo
  have HJx := hide hJxo
  have HJT := hide hJT
  have HJX := hide hJX
  clear hY hJo hJxo hJT hJX
  have c0 := (hs.2.alloc (.cells #[.func (.yield lp) #[] #[]] 66)).cell
  refine callsIn_of_wp_marks Try.func43 rfl trivial ?_ rfl
  simp only [Try.ntmps43, List.size_toArray, List.length_cons, List.length_nil, Nat.reduceAdd, Nat.reduceSub, Array.replicate_succ, Array.replicate_zero, List.push_toArray, List.append_toArray, List.nil_append, List.cons_append]
  gi_wp2_with (refine ⟨trivial, ?_⟩; gi_at_call 44; refine ((callsIn_wide (n := _)).2 (firsts_calls _ _)).mono ?_; rintro en w' ⟨rfl, rfl⟩)
  (try simp only [Nat.add_assoc, Nat.reduceAdd])
  obtain ⟨W3, hW3⟩ : ∃ W3, ((W.alloc (.cells #[.func (.yield lp) #[] #[]] 66)).alloc (.cells #[.pointer (some ⟨p, 0, none⟩)] 25)) = W3 := ⟨_, rfl⟩
  have s3 : W3.heap.size = W.heap.size + 2 := by rw [← hW3]; simp
  have y0 : Boxed W3 W.heap.size 66 (.func (.yield lp) #[] #[]) := by rw [← hW3]; exact (boxed_new' (by simp)).alloc _
  have y1 : Boxed W3 (W.heap.size + 1) 25 (.pointer (some ⟨p, 0, none⟩)) := by rw [← hW3]; exact boxed_new' (by simp)
  have hB3 : Below W.heap.size W W3 := by
    rw [← hW3]
    exact ((Below.refl _ W).alloc (Nat.le_refl _) _).alloc (by simp) _
  have hs3 := hs.below hB3
  have hj3 : ∃ T, J 0 T W3 ∧ ∀ c, T c → c < W.heap.size := by
    obtain ⟨T, hT⟩ := h0
    exact ⟨T, HJX.out 0 T W W3 hT (touch_new hB3), HJT.out 0 T W hT⟩
  rw [hW3]
  clear hW3 c0 h0
  obtain ⟨s, hsz⟩ : ∃ s, W.heap.size = s := ⟨_, rfl⟩
  rw [hsz] at HY HJ HJx s3 y0 y1 hj3 hpl hbl hxl ⊢
  clear hB3 hsz hs
  refine range_lawF (by decide) (gf := 48) (lb := #[.pointer (some ⟨s + 1, 0, none⟩)]) rfl (enters_of Try.func48 (by kernel_rfl) rfl)
    (St := fun k Z => IsFil Z p b (takesF k F) ∧ Boxed Z (s + 1) 25 (.pointer (some ⟨p, 0, none⟩)) ∧ k ≤ (readyL F).length) (Gv := GvF F) (Fin := fun k => k = (readyL F).length) ?seq
    (fun k Z => (∃ T, J k T Z ∧ ∀ c, s ≤ c → c < s + 2 → ¬ T c) ∧ StF p b bx F k Z ∧ Boxed Z s 66 (.func (.yield lp) #[] #[]) ∧ Boxed Z (s + 1) 25 (.pointer (some ⟨p, 0, none⟩)) ∧ k ≤ (readyL F).length ∧ s + 2 ≤ Z.heap.size)
    (fun c Z => c = .ret ∧ ∃ k, Jx k Z ∧ StF p b bx F k Z)
    (fun k Z h => ⟨h.2.1.1, h.2.2.2.1, h.2.2.2.2.1⟩) ?hIb ?hI ?hIx (fun v => GvF.own v) (fun k v A B h hb => h.keep fun i c e => hb.block i (ltAt e)) ?h0
    (fun v a' Z => ∃ (Bx : Nat) (z1 z2 : Int) (z3 : Option Addr) (z4 z5 : Nat) (z6 z7 : ByteArray), s + 2 ≤ Bx ∧ v = .agg #[.int .i64 z1, .int .i64 z2, .slice z3 z4 z5, .string z6, .string z7] ∧ Z.heap[Bx]? = some (.cells #[.int .i64 z1, .int .i64 z2, .slice z3 z4 z5, .string z6, .string z7] 35 (0, 0)) ∧ a' = { tmps := #[.func (.yield lp) #[] #[], .pointer (some ⟨bx, 0, none⟩), .pointer (some ⟨s, 0, none⟩), .pointer (some ⟨Bx, 0, none⟩), .pointer (some ⟨p, 0, none⟩), .func (.func 48) #[] #[.pointer (some ⟨s + 1, 0, none⟩)], v, undef, undef, undef, undef, undef, undef, undef, undef, undef, undef, undef, undef, undef, undef, undef, undef, undef], defers := [] })
    ?hAx ?assign ?body ?done ?stop
  case seq =>
    intro l J2 Jx2 Wx hWx hSt hb2 hY2 h02
    refine (firsts_seq 7 (by decide) l (s + 1) p b (readyL F).length F.next (fun k => takesF k F) J2 Jx2 (fun k A h => ⟨(hSt k A h).1, (hSt k A h).2.1⟩) hb2 (fun k => takesF_next k F) (fun k A h => (hSt k A h).2.2) (fun k A r v hJ hf hv => hY2 k A v hJ ⟨r, by rw [← readyL_first hok k (hSt k A hJ).2.2]; exact hf, hv⟩) Wx h02).mono ?_
    rintro e B ⟨h1, ⟨k, hk, hJ⟩ | h2⟩
    · refine ⟨h1, .inl ⟨k, ?_, hJ⟩⟩
      have hle := (hSt k B hJ).2.2
      rw [readyL_first hok k hle] at hk
      have := List.getElem?_eq_none_iff.1 hk
      omega
    · exact ⟨h1, .inr h2⟩
  case hIb =>
    rintro k A B ⟨⟨T, h1, h2⟩, h3, h4, h5, h6, h7⟩ hb
    exact ⟨⟨T, HJX.out k T A B h1 (touch_new hb), h2⟩, h3.below hb, boxed_of_heap h4 (hb.block _ h4.lt), boxed_of_heap h5 (hb.block _ h5.lt), h6, Nat.le_trans h7 hb.size⟩
  case hI =>
    rintro k A B row ⟨⟨T, h1, h2⟩, h3, h4, h5, h6, h7⟩ hg hr
    exact ⟨⟨T, OwnFrom.up (HJ.out T) (show s ≤ W3.heap.size by omega) _ A B row h1 hg hr, h2⟩, StF.own (show b < W3.heap.size by omega) k A B row h3 hg hr, boxed_own' hg (fun r e => (hr r e).2) h4, boxed_own' hg (fun r e => (hr r e).2) h5, h6, Nat.le_trans h7 hg.size⟩
  case hIx =>
    rintro c A B row ⟨h1, k, h2, h3⟩ hg hr
    exact ⟨h1, k, OwnFrom.up HJx.out (show s ≤ W3.heap.size by omega) _ A B row h2 hg hr, StF.own (show b < W3.heap.size by omega) k A B row h3 hg hr⟩
  case h0 =>
    obtain ⟨T, h1, h2⟩ := hj3
    exact ⟨⟨T, h1, fun c hc1 _ hc => by have := h2 c hc; omega⟩, hs3, y0, y1, Nat.zero_le _, by omega⟩
  case hAx =>
    rintro v a' _ A B row ⟨Bx, z1, z2, z3, z4, z5, z6, z7, h1, h2, h3, h4⟩ hg hr
    exact ⟨Bx, z1, z2, z3, z4, z5, z6, z7, h1, h2, (own_keeps hg (fun r e => (hr r e).2) h3).trans h3, h4⟩
  case assign =>
    rintro l k v X K ⟨-, -, -, -, -, hXs⟩ ⟨r, -, vd, rfl, hr⟩ hK
    obtain ⟨a, cap, rfl⟩ := ownsRow_slice hr
    replace hK := hide hK
    clear hr
    gi_wp2
    exact hK.out _ _ (box_below X _) ⟨X.heap.size, r.site, r.seq, a, r.dep.length, cap, r.key, r.val, hXs, rfl, World.alloc_heap_new X _, rfl⟩
  case body =>
    rintro l k v a' X hl1 ⟨rl, hrl⟩ ⟨⟨T, hJ, hT⟩, hst, hy0, hy1, hle, hXs⟩ ⟨r, hrk, hrv⟩ ⟨Bx, z1, z2, z3, z4, z5, z6, z7, hBx, rfl, hbx, rfl⟩
    have hf : firstF (takesF k F) = some r := by rw [readyL_first hok k hle]; exact hrk
    have hgv := hide (show GvF F k (.agg #[.int .i64 z1, .int .i64 z2, .slice z3 z4 z5, .string z6, .string z7]) X from ⟨r, hrk, hrv⟩)
    obtain ⟨vd, e, -⟩ := hrv
    have hz2 : z2 = r.seq := by have e2 := e; simp at e2; exact e2.2.1
    clear e
    subst hz2
    have hstd : StF p b bx F k X.drew := hst.below ((Below.refl _ X).drew)
    obtain ⟨w1, hdel, hw1p, hw1t, hw1f⟩ := fil_take hstd.1 hf
    have hne := hstd.1.ne
    have hnb : bx ≠ b := by rintro rfl; obtain ⟨M, -, m2, -⟩ := hstd.1.held; exact m2.not_cells hstd.2
    have hnp : bx ≠ p := by
      rintro rfl
      have := hstd.2
      unfold Boxed at this
      rw [hstd.1.head] at this
      simp at this
    have hbxd : X.drew.heap[Bx]? = some (.cells #[.int .i64 z1, .int .i64 r.seq, .slice z3 z4 z5, .string z6, .string z7] 35 (0, 0)) := hbx
    obtain ⟨x0, x1, x2, x3, x4, -, -, -, -, -⟩ := cells5F hbxd
    obtain ⟨d0, d1, d2, d3, -, -, -, -⟩ := cells4F hstd.1.head
    have cb := hstd.2.cell
    have cb' := hst.2.cell
    have hb1 : ∀ c, c < X.heap.size → c ≠ b → w1.heap[c]? = X.heap[c]? := fun c hc hcb => hw1t.block c hc hcb
    have hxX := hst.2.lt
    have hpX := hst.1.lt
    have hsb : s ≠ b := by omega
    have hBxl := ltAt hbx
    have hBxb : Bx ≠ b := by omega
    have e1 := (hb1 Bx hBxl hBxb).trans hbx
    have e2 := (hb1 p hpX hne).trans hst.1.head
    obtain ⟨f0, f1, f2, f3, -, -, g2, -⟩ := cells4F e2
    have q1 : Boxed w1 bx 25 (.pointer (some ⟨p, 0, none⟩)) := boxed_of_heap hst.2 (hb1 bx hxX hnb)
    have q0 : Boxed w1 s 66 (.func (.yield lp) #[] #[]) := boxed_of_heap hy0 (hb1 s hy0.lt hsb)
    have cq1 := q1.cell
    have cq0 := q0.cell
    obtain ⟨k0, k1, k2, k3, k4, -, -, -, -, -⟩ := cells5F e1
    have hps : p ≠ s := by omega
    have hsp : s ≠ p := by omega
    have hpB : p ≠ Bx := by omega
    have hBp : Bx ≠ p := by omega
    have hF1 := hide hw1f
    have hT1 := hide hw1t
    have HST := hide hst
    have hq0 := hide (boxed_of_heap (W' := w1.setCell ⟨p, 2, none⟩ (.int .i64 ((takesF k F).next + 1))) q0 (Below.heap_setCell _ _ _ _ (by simp; omega)))
    have hE1 := hide ((Below.heap_setCell w1 ⟨p, 2, none⟩ (.int .i64 ((takesF k F).next + 1)) Bx (by simp; omega)).trans e1)
    have hnx := (takeF_ok hstd.1.ok hf).next1
    have hnx0 := hstd.1.ok.next0
    have hwr : wrap64 ((takesF k F).next + 1) = (takesF k F).next + 1 := wrap64_mid' _ (by omega) (by simp [takeF] at hnx; omega)
    clear hnx hnx0 hw1f hw1t hst hw1p e1 e2 q0 q1 hbx
    gi_wp2_with fail
    gi_region
    all_goals
      clear d0 d1 d2 d3 x0 x1 x2 x3 x4 cb cb' hstd hbxd hdel
      obtain ⟨W5, hW5⟩ : ∃ W5, w1.setCell ⟨p, 2, none⟩ (.int .i64 ((takesF k F).next + 1)) = W5 := ⟨_, rfl⟩
      have hT5 : Touch (onFil p b) X W5 := by
        rw [← hW5]
        exact (((touch_new (S := onFil p b) ((Below.refl _ X).drew)).trans (hT1.out.mono fun c _ e => .inr e)).set _ _ (.inl rfl))
      rw [hW5] at hF1 hq0 hE1
      have hx5 := hide (hT5.block bx hxX (by rintro (e | e); exact hnp e; exact hnb e))
      replace hW5 := hide hW5
      have hst5 : StF p b bx F (k + 1) W5 := ⟨by rw [takesF_succ]; exact hF1.out, boxed_of_heap HST.out.2 hx5.out⟩
      have hgv5 : GvF F k _ W5 := hgv.out.keep fun c cs e => hT5.block c (ltAt e) (by
        rintro (rfl | rfl)
        · rw [HST.out.1.head] at e
          simp only [Option.some.injEq, Obj.cells.injEq] at e
          exact absurd e.2.1 (by decide)
        · obtain ⟨M, -, m2, -⟩ := HST.out.1.held
          exact m2.not_cells e)
      have hJ5 := HJX.out k T X W5 hJ hT5
      obtain ⟨fn, tmps, assign, body, hy, hR⟩ := HY.out k T W5 _ hJ5 hst5 hgv5 (8 - 1 - 1 - 1)
      have hsz5 := hT5.size
      have HT5 := hide hT5
      have HS5 := hide hst5
      have hlen : k + 1 ≤ (readyL F).length := (List.getElem?_eq_some_iff.1 hrk).1
      have k5 : KeepsFrom W3.heap.size X W5 := ⟨hT5.size, fun c o hc h _ => (hT5.block c (ltAt h) (by rintro (rfl | rfl) <;> omega)).trans h⟩
      have b5 : ∀ c, s ≤ c → c < s + 2 → W5.heap[c]? = X.heap[c]? := fun c h1 h2 => hT5.block c (by omega) (by rintro (rfl | rfl) <;> omega)
      clear hT5 hst5 hgv5 hgv hE1 hF1 hT1
      have hW5' := hW5.out
      clear hW5
      subst hW5'
      gi_wp2
      refine RoundIn.mono (show RoundIn (Fence.wide.inRound l) _ _ _ _ _ _ _ _ _ from hR) ?_
      rintro en C (⟨rfl, ⟨T', hJ', hkt⟩, hkp⟩ | ⟨rfl, hJx', hkf, hkp⟩)
      · gi_wp2
        have b6 : ∀ c, s ≤ c → c < s + 2 → C.heap[c]? = X.heap[c]? := fun c h1 h2 => (hkt.same c h1 (by omega) (hT c h1 h2)).trans (b5 c h1 h2)
        refine ⟨k5.trans ⟨hkt.keep.size, fun c o hc => hkt.keep.same c o (by omega)⟩, ⟨T', hJ', fun c h1 h2 h3 => hT c h1 h2 (hkt.old c (by omega) h3)⟩, HS5.out.kp hkp, boxed_of_heap hy0 (b6 s (Nat.le_refl _) (by omega)), boxed_of_heap hy1 (b6 (s + 1) (by omega) (by omega)), hlen, by have := hkt.keep.size; omega⟩
      · gi_wp2
        exact ⟨k5.trans ⟨hkf.size, fun c o hc => hkf.same c o (by omega)⟩, rfl, k + 1, hJx', HS5.out.kp hkp⟩
  case done =>
    rintro D k X hD rfl ⟨⟨T, hJ, hT⟩, hst, -, -, -, -⟩ hK
    gi_wp2
    refine ⟨by simp, .inl ⟨_, _, rfl, run_takeDeferred hK, ?_⟩⟩
    exact ⟨_, results_none rfl _ _ _, ⟨_, rfl⟩, .inl ⟨_, T, rfl, (HJ.out T).putObj _ hJ (by omega) hK rfl, StF.own hbl |>.putObj _ hst (by omega) hK rfl⟩⟩
  case stop =>
    rintro D c X hD ⟨rfl, k, hJ, hst⟩ hK
    gi_wp2
    refine ⟨by simp, .inl ⟨_, _, rfl, run_takeDeferred hK, ?_⟩⟩
    exact ⟨_, results_none rfl _ _ _, ⟨_, rfl⟩, .inr ⟨k, HJx.out.putObj _ hJ (by omega) hK rfl, StF.own hbl |>.putObj _ hst (by omega) hK rfl⟩⟩

end Go.Proofs.Ytompaldhnbcikaa
