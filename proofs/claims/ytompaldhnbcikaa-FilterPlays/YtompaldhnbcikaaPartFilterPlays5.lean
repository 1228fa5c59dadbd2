/- Own work: the parts F9, R7, R8, R9, Range2, Tail, R10, R11 of the proof, laid together. -/
import Derived.Test.YtompaldhnbcikaaPartFilterPlays4
import Derived.Test.YtompaldhnbcikaaPartFilterPlays3
import Derived.Outline
import Derived.Deep.RegionLaw
import Derived.Test.YtompaldhnbcikaaPartFilterPlays2
import Derived.Test.YtompaldhnbcikaaPartFilterPlays1
import Derived.Sort.QuietThIn
import Derived.StillTail
import Derived.Lib.QuietBelowIn
import Derived.Stop.RegionWithIn
import Derived.Maps.OwnIn
/- filter's Ready: its sequence. Own work; no statement. -/
set_option linter.unusedSimpArgs false
set_option linter.unusedVariables false
namespace Go.Proofs.Ytompaldhnbcikaa
open Go.RowKit Go.Shelf

attribute [local go_sem] Oper.semAt_some

theorem wrap64_mid' (n : Int) (h : -9223372036854775808 ≤ n) (h' : n ≤ 9223372036854775807) : wrap64 n = n := by unfold wrap64; omega

/-- One taken away. -/
theorem fil_take {w : World} {p b : Nat} {F : FilD} {r : RecD} (hf : IsFil w p b F) (hr : firstF F = some r) :
    ∃ w1, (∀ ty, (Builtin.delete_ #[67, 3] ty #[.map (some b), .int .i64 r.seq]).run Try.prog w = .ok (.tuple #[]) w1) ∧ w1.heap[p]? = w.heap[p]? ∧ Touch (fun x => x = b) w w1 ∧
      IsFil (w1.setCell ⟨p, 2, none⟩ (.int .i64 (F.next + 1))) p b (takeF F) := by
  obtain ⟨M, m1, m2, m3⟩ := hf.held
  have hs := (firstF_some hr).2
  have hp : (M.map fun x => (x.1.seq, x.2)).Pairwise fun x y => x.1 ≠ y.1 := by
    have := hf.ok.apart
    rw [← m1, List.pairwise_map] at this
    rw [List.pairwise_map]
    exact this
  obtain ⟨w1, h1, h2, h3⟩ := map_delete (P := Try.prog) Try.underlying67 Try.underlying3 r.seq 0 m2 hp
  have hk : ∀ (k : Nat) (c : Array Value), w.heap[k]? = some (.cells c 3 (0, 0)) → w1.heap[k]? = w.heap[k]? := fun k c e => h3.block k (ltAt e) (by rintro rfl; exact m2.not_cells e)
  have hpp := h3.block p hf.lt hf.ne
  refine ⟨w1, fun _ => h1, hpp, h3, takeF_ok hf.ok hr, ?_, M.filter fun x => decide (x.1.seq ≠ F.next), ?_, ?_, ?_⟩
  · have := setAt (j := 2) (hpp.trans hf.head) (.int .i64 (F.next + 1))
    exact this
  · unfold takeF
    dsimp only
    rw [← m1, List.filter_map]
    rfl
  · refine MapAt.keep ?_ (Below.heap_setCell _ _ _ _ hf.ne.symm)
    rw [hs] at h2
    rw [List.filter_map] at h2
    exact h2
  · intro x hx
    refine ((m3 x (List.mem_filter.1 hx).1).keep hk).keep fun k c e => Below.heap_setCell _ _ _ _ ?_
    rintro rfl
    rw [hpp, hf.head] at e
    simp only [Option.some.injEq, Obj.cells.injEq] at e
    exact absurd e.2.1 (by decide)

/-- Who asks lets the filter's blocks alone, and all rows of numbers. -/
def KpF (p b bx : Nat) (A C : World) : Prop := (∀ c, c = p ∨ c = b ∨ c = bx → C.heap[c]? = A.heap[c]?) ∧ ∀ (k : Nat) (c : Array Value), A.heap[k]? = some (.cells c 3 (0, 0)) → C.heap[k]? = A.heap[k]?
theorem kpF_t {p b bx : Nat} {A B C : World} (h : KpF p b bx A B) (k : KpF p b bx B C) : KpF p b bx A C := ⟨fun c hc => (k.1 c hc).trans (h.1 c hc), fun i c e => (k.2 i c ((h.2 i c e).trans e)).trans (h.2 i c e)⟩
theorem kpF_b {p b bx m : Nat} (h1 : p < m) (h2 : b < m) (h3 : bx < m) (W : World) (l : Nat) (o o' : Obj) (hl : m ≤ l) (ho : W.heap[l]? = some o) (hc : o.isCells = false) (_ : o.isWalk = false) : KpF p b bx W (W.putObj l o') := by
  refine ⟨fun c hc => World.putObj_heap_other (by rcases hc with rfl | rfl | rfl <;> omega), fun k c e => World.putObj_heap_other ?_⟩
  rintro rfl
  rw [ho] at e
  cases e
  cases hc
theorem kpF_n {p b bx : Nat} {A C : World} (h : Below A.heap.size A C) (h1 : p < A.heap.size) (h2 : b < A.heap.size) (h3 : bx < A.heap.size) : KpF p b bx A C :=
  ⟨fun c hc => h.block c (by rcases hc with rfl | rfl | rfl <;> assumption), fun k c e => h.block k (ltAt e)⟩

/-- The filter, so many taken, and the box that Ready's sequence goes by. -/
def StF (p b bx : Nat) (F : FilD) (k : Nat) (W : World) : Prop := IsFil W p b (takesF k F) ∧ Boxed W bx 25 (.pointer (some ⟨p, 0, none⟩))
theorem StF.kp {p b bx : Nat} {F : FilD} {k : Nat} {A C : World} (h : StF p b bx F k A) (hk : KpF p b bx A C) : StF p b bx F k C :=
  ⟨h.1.keep' (hk.1 p (.inl rfl)) (hk.1 b (.inr (.inl rfl))) hk.2, boxed_of_heap h.2 (hk.1 bx (.inr (.inr rfl)))⟩
theorem StF.below {p b bx : Nat} {F : FilD} {k : Nat} {A C : World} (h : StF p b bx F k A) (hb : Below A.heap.size A C) : StF p b bx F k C := h.kp (kpF_n hb h.1.lt h.1.ltb h.2.lt)
theorem StF.own {p b bx : Nat} {F : FilD} {n : Nat} (hbn : b < n) : OwnFrom n (StF p b bx F) := by
  rintro k A C row h hg hr
  refine h.kp ⟨fun c hc => ?_, fun i c e => own_keeps hg (fun r e => (hr r e).2) e⟩
  rcases hc with rfl | rfl | rfl
  · rw [own_keeps hg (fun r e => (hr r e).2) h.1.head]
  · exact hg.block _ h.1.ltb fun e => by have := (hr _ e.symm).1; omega
  · rw [own_keeps hg (fun r e => (hr r e).2) h.2]
/-- What is handed over: the next of those that are ready. -/
def GvF (F : FilD) (k : Nat) (v : Value) (W : World) : Prop := ∃ r, (readyL F)[k]? = some r ∧ OwnRec 0 W v r
theorem GvF.keep {F : FilD} {k : Nat} {v : Value} {A C : World} (h : GvF F k v A) (hk : ∀ (k : Nat) (c : Array Value), A.heap[k]? = some (.cells c 3 (0, 0)) → C.heap[k]? = A.heap[k]?) : GvF F k v C := by
  obtain ⟨r, h1, h2⟩ := h
  exact ⟨r, h1, h2.keep hk⟩
theorem GvF.own {F : FilD} {n : Nat} (v : Value) : OwnFrom n fun k => GvF F k v := fun k A C row h hg hr => h.keep fun i c e => own_keeps hg (fun r e => (hr r e).2) e

set_option maxRecDepth 100000 in
set_option maxHeartbeats 4000000 in
theorem ready_seq (bx p b : Nat) (F : FilD) (w : World) (hs : StF p b bx F 0 w) :
    SeqQ 8 Try.prog 43 #[.pointer (some ⟨bx, 0, none⟩)] (onFil p b) (KpF p b bx) (StF p b bx F) (GvF F) (fun k => k = (readyL F).length) w := by
  intro lp J Jx W hW hJo hJxo hJT hJX hY h0
  have hs := hs.below hW
  have hok := hs.1.ok
  replace hok : F.ok := hok
  have hpl := hs.1.lt
  have hbl := hs.1.ltb
  have hxl := hs.2.lt
  have HY := hide (fun k T A v h1 h2 h3 n' => yield_any (m := 8 - 1) n' (hY k T A v h1 h2 h3))
  have HJ := hide hJo
  have HJx := hide hJxo
  have HJT := hide hJT
  have HJX := hide hJX
  clear hY hJo hJxo hJT hJX
  have c0 := (hs.2.alloc (.cells #[.func (.yield lp) #[] #[]] 66)).cell
  refine callsIn_of_wp_marks Try.func43 rfl trivial ?_ rfl
  simp only [Try.ntmps43, List.size_toArray, List.length_cons, List.length_nil, Nat.reduceAdd, Nat.reduceSub, Array.replicate_succ, Array.replicate_zero, List.push_toArray, List.append_toArray, List.nil_append, List.cons_append]
  gi_wp2_with (refine ⟨trivial, ?_⟩; gi_at_call 44; refine ((callsIn_wide (n := _)).2 (firsts_calls _ _)).mono ?_; rintro en w' ⟨rfl, rfl⟩)
  (try simp only [Nat.add_assoc, Nat.reduceAdd])
  obtain ⟨W3, hW3⟩ : ∃ W3, ((W.alloc (.cells #[.func (.yield lp) #[] #[]] 66)).alloc (.cells #[.pointer (some ⟨p, 0, none⟩)] 25)) = W3 := ⟨_, rfl⟩
  have s3 : W3.heap.size = W.heap.size + 2 := by rw [← hW3]; simp
  have y0 : Boxed W3 W.heap.size 66 (.func (.yield lp) #[] #[]) := by rw [← hW3]; exact (boxed_new' (by simp)).alloc _
  have y1 : Boxed W3 (W.heap.size + 1) 25 (.pointer (some ⟨p, 0, none⟩)) := by rw [← hW3]; exact boxed_new' (by simp)
  have hB3 : Below W.heap.size W W3 := by
    rw [← hW3]
    exact ((Below.refl _ W).alloc (Nat.le_refl _) _).alloc (by simp) _
  have hs3 := hs.below hB3
  have hj3 : ∃ T, J 0 T W3 ∧ ∀ c, T c → c < W.heap.size := by
    obtain ⟨T, hT⟩ := h0
    exact ⟨T, HJX.out 0 T W W3 hT (touch_new hB3), HJT.out 0 T W hT⟩
  rw [hW3]
  clear hW3 c0 h0
  obtain ⟨s, hsz⟩ : ∃ s, W.heap.size = s := ⟨_, rfl⟩
  rw [hsz] at HY HJ HJx s3 y0 y1 hj3 hpl hbl hxl ⊢
  clear hB3 hsz hs
  refine range_lawF (by decide) (gf := 48) (lb := #[.pointer (some ⟨s + 1, 0, none⟩)]) rfl (enters_of Try.func48 (by kernel_rfl) rfl)
    (St := fun k Z => IsFil Z p b (takesF k F) ∧ Boxed Z (s + 1) 25 (.pointer (some ⟨p, 0, none⟩)) ∧ k ≤ (readyL F).length) (Gv := GvF F) (Fin := fun k => k = (readyL F).length) ?seq
    (fun k Z => (∃ T, J k T Z ∧ ∀ c, s ≤ c → c < s + 2 → ¬ T c) ∧ StF p b bx F k Z ∧ Boxed Z s 66 (.func (.yield lp) #[] #[]) ∧ Boxed Z (s + 1) 25 (.pointer (some ⟨p, 0, none⟩)) ∧ k ≤ (readyL F).length ∧ s + 2 ≤ Z.heap.size)
    (fun c Z => c = .ret ∧ ∃ k, Jx k Z ∧ StF p b bx F k Z)
    (fun k Z h => ⟨h.2.1.1, h.2.2.2.1, h.2.2.2.2.1⟩) ?hIb ?hI ?hIx (fun v => GvF.own v) (fun k v A B h hb => h.keep fun i c e => hb.block i (ltAt e)) ?h0
    (fun v a' Z => ∃ (Bx : Nat) (z1 z2 : Int) (z3 : Option Addr) (z4 z5 : Nat) (z6 z7 : ByteArray), s + 2 ≤ Bx ∧ v = .agg #[.int .i64 z1, .int .i64 z2, .slice z3 z4 z5, .string z6, .string z7] ∧ Z.heap[Bx]? = some (.cells #[.int .i64 z1, .int .i64 z2, .slice z3 z4 z5, .string z6, .string z7] 35 (0, 0)) ∧ a' = { tmps := #[.func (.yield lp) #[] #[], .pointer (some ⟨bx, 0, none⟩), .pointer (some ⟨s, 0, none⟩), .pointer (some ⟨Bx, 0, none⟩), .pointer (some ⟨p, 0, none⟩), .func (.func 48) #[] #[.pointer (some ⟨s + 1, 0, none⟩)], v, undef, undef, undef, undef, undef, undef, undef, undef, undef, undef, undef, undef, undef, undef, undef, undef, undef], defers := [] })
    ?hAx ?assign ?body ?done ?stop
  case seq =>
    intro l J2 Jx2 Wx hWx hSt hb2 hY2 h02
    refine (firsts_seq 7 (by decide) l (s + 1) p b (readyL F).length F.next (fun k => takesF k F) J2 Jx2 (fun k A h => ⟨(hSt k A h).1, (hSt k A h).2.1⟩) hb2 (fun k => takesF_next k F) (fun k A h => (hSt k A h).2.2) (fun k A r v hJ hf hv => hY2 k A v hJ ⟨r, by rw [← readyL_first hok k (hSt k A hJ).2.2]; exact hf, hv⟩) Wx h02).mono ?_
    rintro e B ⟨h1, ⟨k, hk, hJ⟩ | h2⟩
    · refine ⟨h1, .inl ⟨k, ?_, hJ⟩⟩
      have hle := (hSt k B hJ).2.2
      rw [readyL_first hok k hle] at hk
      have := List.getElem?_eq_none_iff.1 hk
      omega
    · exact ⟨h1, .inr h2⟩
  case hIb =>
    rintro k A B ⟨⟨T, h1, h2⟩, h3, h4, h5, h6, h7⟩ hb
    exact ⟨⟨T, HJX.out k T A B h1 (touch_new hb), h2⟩, h3.below hb, boxed_of_heap h4 (hb.block _ h4.lt), boxed_of_heap h5 (hb.block _ h5.lt), h6, Nat.le_trans h7 hb.size⟩
  case hI =>
    rintro k A B row ⟨⟨T, h1, h2⟩, h3, h4, h5, h6, h7⟩ hg hr
    exact ⟨⟨T, OwnFrom.up (HJ.out T) (show s ≤ W3.heap.size by omega) _ A B row h1 hg hr, h2⟩, StF.own (show b < W3.heap.size by omega) k A B row h3 hg hr, boxed_own' hg (fun r e => (hr r e).2) h4, boxed_own' hg (fun r e => (hr r e).2) h5, h6, Nat.le_trans h7 hg.size⟩
  case hIx =>
    rintro c A B row ⟨h1, k, h2, h3⟩ hg hr
    exact ⟨h1, k, OwnFrom.up HJx.out (show s ≤ W3.heap.size by omega) _ A B row h2 hg hr, StF.own (show b < W3.heap.size by omega) k A B row h3 hg hr⟩
  case h0 =>
    obtain ⟨T, h1, h2⟩ := hj3
    exact ⟨⟨T, h1, fun c hc1 _ hc => by have := h2 c hc; omega⟩, hs3, y0, y1, Nat.zero_le _, by omega⟩
  case hAx =>
    rintro v a' _ A B row ⟨Bx, z1, z2, z3, z4, z5, z6, z7, h1, h2, h3, h4⟩ hg hr
    exact ⟨Bx, z1, z2, z3, z4, z5, z6, z7, h1, h2, (own_keeps hg (fun r e => (hr r e).2) h3).trans h3, h4⟩
  case assign =>
    rintro l k v X K ⟨-, -, -, -, -, hXs⟩ ⟨r, -, vd, rfl, hr⟩ hK
    obtain ⟨a, cap, rfl⟩ := ownsRow_slice hr
    replace hK := hide hK
    clear hr
    gi_wp2
    exact hK.out _ _ (box_below X _) ⟨X.heap.size, r.site, r.seq, a, r.dep.length, cap, r.key, r.val, hXs, rfl, World.alloc_heap_new X _, rfl⟩
  case body =>
    rintro l k v a' X hl1 ⟨rl, hrl⟩ ⟨⟨T, hJ, hT⟩, hst, hy0, hy1, hle, hXs⟩ ⟨r, hrk, hrv⟩ ⟨Bx, z1, z2, z3, z4, z5, z6, z7, hBx, rfl, hbx, rfl⟩
    have hf : firstF (takesF k F) = some r := by rw [readyL_first hok k hle]; exact hrk
    have hgv := hide (show GvF F k (.agg #[.int .i64 z1, .int .i64 z2, .slice z3 z4 z5, .string z6, .string z7]) X from ⟨r, hrk, hrv⟩)
    obtain ⟨vd, e, -⟩ := hrv
    have hz2 : z2 = r.seq := by have e2 := e; simp at e2; exact e2.2.1
    clear e
    subst hz2
    have hstd : StF p b bx F k X.drew := hst.below ((Below.refl _ X).drew)
    obtain ⟨w1, hdel, hw1p, hw1t, hw1f⟩ := fil_take hstd.1 hf
    have hne := hstd.1.ne
    have hnb : bx ≠ b := by rintro rfl; obtain ⟨M, -, m2, -⟩ := hstd.1.held; exact m2.not_cells hstd.2
    have hnp : bx ≠ p := by
      rintro rfl
      have := hstd.2
      unfold Boxed at this
      rw [hstd.1.head] at this
      simp at this
    have hbxd : X.drew.heap[Bx]? = some (.cells #[.int .i64 z1, .int .i64 r.seq, .slice z3 z4 z5, .string z6, .string z7] 35 (0, 0)) := hbx
    obtain ⟨x0, x1, x2, x3, x4, -, -, -, -, -⟩ := cells5F hbxd
    obtain ⟨d0, d1, d2, d3, -, -, -, -⟩ := cells4F hstd.1.head
    have cb := hstd.2.cell
    have cb' := hst.2.cell
    have hb1 : ∀ c, c < X.heap.size → c ≠ b → w1.heap[c]? = X.heap[c]? := fun c hc hcb => hw1t.block c hc hcb
    have hxX := hst.2.lt
    have hpX := hst.1.lt
    have hsb : s ≠ b := by omega
    have hBxl := ltAt hbx
    have hBxb : Bx ≠ b := by omega
    have e1 := (hb1 Bx hBxl hBxb).trans hbx
    have e2 := (hb1 p hpX hne).trans hst.1.head
    obtain ⟨f0, f1, f2, f3, -, -, g2, -⟩ := cells4F e2
    have q1 : Boxed w1 bx 25 (.pointer (some ⟨p, 0, none⟩)) := boxed_of_heap hst.2 (hb1 bx hxX hnb)
    have q0 : Boxed w1 s 66 (.func (.yield lp) #[] #[]) := boxed_of_heap hy0 (hb1 s hy0.lt hsb)
    have cq1 := q1.cell
    have cq0 := q0.cell
    obtain ⟨k0, k1, k2, k3, k4, -, -, -, -, -⟩ := cells5F e1
    have hps : p ≠ s := by omega
    have hsp : s ≠ p := by omega
    have hpB : p ≠ Bx := by omega
    have hBp : Bx ≠ p := by omega
    have hF1 := hide hw1f
    have hT1 := hide hw1t
    have HST := hide hst
    have hq0 := hide (boxed_of_heap (W' := w1.setCell ⟨p, 2, none⟩ (.int .i64 ((takesF k F).next + 1))) q0 (Below.heap_setCell _ _ _ _ (by simp; omega)))
    have hE1 := hide ((Below.heap_setCell w1 ⟨p, 2, none⟩ (.int .i64 ((takesF k F).next + 1)) Bx (by simp; omega)).trans e1)
    have hnx := (takeF_ok hstd.1.ok hf).next1
    have hnx0 := hstd.1.ok.next0
    have hwr : wrap64 ((takesF k F).next + 1) = (takesF k F).next + 1 := wrap64_mid' _ (by omega) (by simp [takeF] at hnx; omega)
    clear hnx hnx0 hw1f hw1t hst hw1p e1 e2 q0 q1 hbx
    gi_wp2_with fail
    gi_region
    all_goals
      clear d0 d1 d2 d3 x0 x1 x2 x3 x4 cb cb' hstd hbxd hdel
      obtain ⟨W5, hW5⟩ : ∃ W5, w1.setCell ⟨p, 2, none⟩ (.int .i64 ((takesF k F).next + 1)) = W5 := ⟨_, rfl⟩
      have hT5 : Touch (onFil p b) X W5 := by
        rw [← hW5]
        exact (((touch_new (S := onFil p b) ((Below.refl _ X).drew)).trans (hT1.out.mono fun c _ e => .inr e)).set _ _ (.inl rfl))
      rw [hW5] at hF1 hq0 hE1
      have hx5 := hide (hT5.block bx hxX (by rintro (e | e); exact hnp e; exact hnb e))
      replace hW5 := hide hW5
      have hst5 : StF p b bx F (k + 1) W5 := ⟨by rw [takesF_succ]; exact hF1.out, boxed_of_heap HST.out.2 hx5.out⟩
      have hgv5 : GvF F k _ W5 := hgv.out.keep fun c cs e => hT5.block c (ltAt e) (by
        rintro (rfl | rfl)
        · rw [HST.out.1.head] at e
          simp only [Option.some.injEq, Obj.cells.injEq] at e
          exact absurd e.2.1 (by decide)
        · obtain ⟨M, -, m2, -⟩ := HST.out.1.held
          exact m2.not_cells e)
      have hJ5 := HJX.out k T X W5 hJ hT5
      obtain ⟨fn, tmps, assign, body, hy, hR⟩ := HY.out k T W5 _ hJ5 hst5 hgv5 (8 - 1 - 1 - 1)
      have hsz5 := hT5.size
      have HT5 := hide hT5
      have HS5 := hide hst5
      have hlen : k + 1 ≤ (readyL F).length := (List.getElem?_eq_some_iff.1 hrk).1
      have k5 : KeepsFrom W3.heap.size X W5 := ⟨hT5.size, fun c o hc h _ => (hT5.block c (ltAt h) (by rintro (rfl | rfl) <;> omega)).trans h⟩
      have b5 : ∀ c, s ≤ c → c < s + 2 → W5.heap[c]? = X.heap[c]? := fun c h1 h2 => hT5.block c (by omega) (by rintro (rfl | rfl) <;> omega)
      clear hT5 hst5 hgv5 hgv hE1 hF1 hT1
      have hW5' := hW5.out
      clear hW5
      subst hW5'
      gi_wp2
      refine RoundIn.mono (show RoundIn (Fence.wide.inRound l) _ _ _ _ _ _ _ _ _ from hR) ?_
      rintro en C (⟨rfl, ⟨T', hJ', hkt⟩, hkp⟩ | ⟨rfl, hJx', hkf, hkp⟩)
      · gi_wp2
        have b6 : ∀ c, s ≤ c → c < s + 2 → C.heap[c]? = X.heap[c]? := fun c h1 h2 => (hkt.same c h1 (by omega) (hT c h1 h2)).trans (b5 c h1 h2)
        refine ⟨k5.trans ⟨hkt.keep.size, fun c o hc => hkt.keep.same c o (by omega)⟩, ⟨T', hJ', fun c h1 h2 h3 => hT c h1 h2 (hkt.old c (by omega) h3)⟩, HS5.out.kp hkp, boxed_of_heap hy0 (b6 s (Nat.le_refl _) (by omega)), boxed_of_heap hy1 (b6 (s + 1) (by omega) (by omega)), hlen, by have := hkt.keep.size; omega⟩
      · gi_wp2
        exact ⟨k5.trans ⟨hkf.size, fun c o hc => hkf.same c o (by omega)⟩, rfl, k + 1, hJx', HS5.out.kp hkp⟩
  case done =>
    rintro D k X hD rfl ⟨⟨T, hJ, hT⟩, hst, -, -, -, -⟩ hK
    gi_wp2
    refine ⟨by simp, .inl ⟨_, _, rfl, run_takeDeferred hK, ?_⟩⟩
    exact ⟨_, results_none rfl _ _ _, ⟨_, rfl⟩, .inl ⟨_, T, rfl, (HJ.out T).putObj _ hJ (by omega) hK rfl, StF.own hbl |>.putObj _ hst (by omega) hK rfl⟩⟩
  case stop =>
    rintro D c X hD ⟨rfl, k, hJ, hst⟩ hK
    gi_wp2
    refine ⟨by simp, .inl ⟨_, _, rfl, run_takeDeferred hK, ?_⟩⟩
    exact ⟨_, results_none rfl _ _ _, ⟨_, rfl⟩, .inr ⟨k, HJx.out.putObj _ hJ (by omega) hK rfl, StF.own hbl |>.putObj _ hst (by omega) hK rfl⟩⟩

end Go.Proofs.Ytompaldhnbcikaa

/- rec's Parse: a text as a record. Own work; no statement. -/
set_option linter.unusedSimpArgs false
set_option linter.unusedVariables false
namespace Go.Proofs.Ytompaldhnbcikaa
open Go.RowKit Go.Sort


end Go.Proofs.Ytompaldhnbcikaa

/- Steps of a region that draws; rows of structs; rec's Of. Own work; no statement. -/
set_option linter.unusedSimpArgs false
set_option linter.unusedVariables false
namespace Go.Proofs.Ytompaldhnbcikaa
open Go.RowKit Go.Sort

section
variable {P : Program} {ops : Array Oper} {o : Oper} {a : Act} {w : World} {K : Act → World → Prop} {Q : Exit → Act → World → Prop} {E : Prop}

/-- A call of a Go function by its contract, as a step of a region that draws. -/
theorem step_call (hg : o.guard = none) (f : FuncId) (args : Array Value) {R : Ending → World → Prop} (hrun : (execOp a.eval o).run P w = .ok (.enter f args) w) (hc : Calls P f args w R)
    (hR : ∀ e w', R e w' → ∃ v, e = .returned v ∧ K (a.put o.dst v) w') : if Region.wanted o (yielded ops a.tmps) = true then Oper.wp P o a w K Q else E := by
  rw [if_pos (by simp [Region.wanted, hg])]
  unfold Oper.wp
  rw [hrun]
  simp only [Oper.upon]
  refine hc.mono fun e w' h => ?_
  obtain ⟨v, rfl, hk⟩ := hR e w' h
  exact hk

/-- append to a row of one's own, as such a step. -/
theorem step_append (hg : o.guard = none) (s x : Operand) (t : TypeId) (hop : o.op = Op.call { callee := Callee.builtin Builtin.append, args := #[s, x], argTypes := #[t, t] })
    (base : Nat) (e : TypeId) (i : TypeInfo) (z : Value) (size bytes : Nat) (h1 : P.underlying t = some (.slice e)) (h2 : P.info? e = some i) (h3 : i.zero = some z) (h4 : i.size = size) (h5 : i.bytes = bytes) (h6 : z.cells.size = size) (h7 : 0 < size)
    (v : Value) (n : Nat) (xs : List Value) (hs : a.eval s = v) (hown : w.ownsRow base e size v n xs) (ad : Addr) (m c : Nat) (news : List Value) (hx : a.eval x = .slice (some ad) m c) (hn : news.length = m * size) (hc : ∀ j u, news[j]? = some u → w.cell? (ad.add j) = some u) (h1c : ∀ u ∈ news, u.oneCell' = true)
    (b1 : n + m ≤ maxLen) (b2 : (n + m) * bytes ≤ 140737488355328) (hb : base ≤ w.heap.size)
    (hK : ∀ v' w', w'.ownsRow base e size v' (n + m) (xs ++ news) → w.grownBy w' v.ownBlock → K (a.put o.dst v') w') : if Region.wanted o (yielded ops a.tmps) = true then Oper.wp P o a w K Q else E := by
  rw [if_pos (by simp [Region.wanted, hg])]
  obtain ⟨v', w', hrun, r1, r2, _⟩ := run_append_own (P := P) w base t o.type e i z size bytes h1 h2 h3 h4 h5 h6 h7 v n xs hown ad m c news hn hc h1c b1 b2 hb
  unfold Oper.wp
  simp [execOp, hop, resolve, invoke, builtin, hs, hx, hrun, Result.andThen]
  exact hK v' w' r1 r2
end

/-- At ⟨b, o⟩ there lies the record r. -/
def RecAt (w : World) (b o : Nat) (r : RecD) : Prop :=
  ∃ a cap, w.cell? ⟨b, o, none⟩ = some (.int .i64 r.site) ∧ w.cell? ⟨b, o + 1, none⟩ = some (.int .i64 r.seq) ∧ w.cell? ⟨b, o + 2, none⟩ = some (.slice a r.dep.length cap) ∧ w.cell? ⟨b, o + 3, none⟩ = some (.string r.key) ∧ w.cell? ⟨b, o + 4, none⟩ = some (.string r.val) ∧
    IsNums .i64 w (.slice a r.dep.length cap) r.dep
theorem RecAt.below {w w' : World} {b o : Nat} {r : RecD} (h : RecAt w b o r) (hb : Below w.heap.size w w') : RecAt w' b o r := by
  obtain ⟨a, cap, h0, h1, h2, h3, h4, hn⟩ := h
  have hlt : b < w.heap.size := World.block_lt_of_cell? w _ h0
  exact ⟨a, cap, (hb.cell (p := ⟨b, o, none⟩) hlt).trans h0, (hb.cell (p := ⟨b, o + 1, none⟩) hlt).trans h1, (hb.cell (p := ⟨b, o + 2, none⟩) hlt).trans h2, (hb.cell (p := ⟨b, o + 3, none⟩) hlt).trans h3, (hb.cell (p := ⟨b, o + 4, none⟩) hlt).trans h4, hn.below hb⟩

/-- In the world w the slice v reads as the records l. -/
def IsRecs (w : World) (v : Value) (l : List RecD) : Prop :=
  ∃ a cap, v = .slice a l.length cap ∧ ∀ t (h : t < l.length), ∃ b o, a = some ⟨b, o, none⟩ ∧ RecAt w b (o + t * 5) l[t]
theorem IsRecs.below {w w' : World} {v : Value} {l : List RecD} (h : IsRecs w v l) (hb : Below w.heap.size w w') : IsRecs w' v l := by
  obtain ⟨a, cap, rfl, h⟩ := h
  exact ⟨a, cap, rfl, fun t ht => let ⟨b, o, e, hr⟩ := h t ht; ⟨b, o, e, hr.below hb⟩⟩

/-- A record of a site, its place, and the slice of its numbers. -/
structure Pl where
  i : Int
  r : RecD
  vd : Value
def Pl.cells (p : Pl) : List Value := [.int .i64 p.i, .int .i64 p.r.site, .int .i64 p.r.seq, p.vd, .string p.r.key, .string p.r.val]

/-- The records of a site among the first k, with their places. -/
def placedTo (l : List RecD) (site : Int) : Nat → List (Int × RecD)
  | 0 => []
  | k + 1 => placedTo l site k ++ (match l[k]? with | some r => if r.site = site then [((k : Int), r)] else [] | none => [])

theorem rows_apart {W : World} {B B' : Nat} {e e' : TypeId} {s s' : Nat} {v v' : Value} {n n' : Nat} {xs ys : List Value} (he : e ≠ e') (h : W.ownsRow B e s v n xs) (h' : W.ownsRow B' e' s' v' n' ys) (k : Nat) (hk : v.ownBlock = some k) : v'.ownBlock ≠ some k := by
  intro hk'
  rcases h.2 with ⟨rfl, _⟩ | ⟨g, cap, cur, rfl, _, hg, _⟩
  · cases hk
  · rcases h'.2 with ⟨rfl, _⟩ | ⟨g', cap', cur', rfl, _, hg', _⟩
    · cases hk'
    · have e1 : g = k := by simpa [Value.ownBlock] using hk
      have e2 : g' = k := by simpa [Value.ownBlock] using hk'
      subst e1
      subst e2
      rw [hg] at hg'
      simp only [Option.some.injEq, Obj.cells.injEq] at hg'
      exact he hg'.2.1

end Go.Proofs.Ytompaldhnbcikaa

/- rec's Of: the records of a site, with their places. Own work; no statement. -/
set_option linter.unusedSimpArgs false
set_option linter.unusedVariables false
namespace Go.Proofs.Ytompaldhnbcikaa
open Go.RowKit Go.Sort
theorem placedTo_skip {l : List RecD} {site : Int} {k : Nat} (hk : k < l.length) (h : ¬ l[k].site = site) : placedTo l site (k + 1) = placedTo l site k := by
  simp only [placedTo, List.getElem?_eq_getElem hk, if_neg h, List.append_nil]
theorem placedTo_take {l : List RecD} {site : Int} {k : Nat} (hk : k < l.length) (h : l[k].site = site) : placedTo l site (k + 1) = placedTo l site k ++ [((k : Int), l[k])] := by
  simp only [placedTo, List.getElem?_eq_getElem hk, if_pos h]
theorem placedTo_length (l : List RecD) (site : Int) : ∀ k, (placedTo l site k).length ≤ k
  | 0 => by simp [placedTo]
  | k + 1 => by
    have := placedTo_length l site k
    simp only [placedTo, List.length_append]
    split
    · split <;> simp <;> omega
    · simp; omega

theorem cells_new {W : World} {c : Array Value} {e : TypeId} {g : Nat} (h : g = W.heap.size) : ∀ j u, c.toList[j]? = some u → (W.alloc (.cells c e)).cell? ((⟨g, 0, none⟩ : Addr).add j) = some u := by
  subst h
  intro j u hj
  rw [Addr.add_lit, Nat.zero_add, World.cell?_alloc_at _ _ _ _ rfl]
  simpa using hj

theorem six_one {p : Pl} {a : Option Addr} {n c : Nat} (h : p.vd = .slice a n c) : ∀ u ∈ p.cells, u.oneCell' = true := by
  intro u hu
  simp only [Pl.cells, h, List.mem_cons, List.not_mem_nil, or_false] at hu
  rcases hu with rfl | rfl | rfl | rfl | rfl | rfl <;> rfl

end Go.Proofs.Ytompaldhnbcikaa

/- A range over a function that makes memory of its own between two rounds, over loop variables that lie in memory: what it hands over is told by a relation E, what the assignment makes of it by a relation Ax. Own work; no statement. -/
set_option linter.unusedSimpArgs false
set_option linter.unusedVariables false
namespace Go.Proofs.Ytompaldhnbcikaa
open Go.RowKit Go.Shelf

section
variable {α : Type} {P : Program} {n : Nat}

/-- The iterator's contract: from a world A it comes to a world B by E x A B, and hands x over there. -/
def SeqR (n : Nat) (P : Program) (g : Nat) (lb : Array Value) (encs : α → Array Value) (Kp : World → World → Prop) (E : α → World → World → Prop) (S Sp : List α → Prop) (N : Nat) (w : World) : Prop :=
  ∀ (l : Nat) (J Jx : List α → World → Prop) (W : World), Below w.heap.size w W →
    (∀ pre x A B, J pre A → E x A B → pre.length < N → YieldAt Fence.wide (n - 1) P l (encs x) B fun e C => (e = .returned (.bool true) ∧ J (pre ++ [x]) C ∧ Kp B C) ∨ (e = .returned (.bool false) ∧ Jx (pre ++ [x]) C)) →
    J [] W → CallsIn Fence.wide n P g (#[.func (.yield l) #[] #[]] ++ lb) W fun e B => (∃ v, e = .returned v) ∧ ((∃ xs, S xs ∧ J xs B) ∨ (∃ pre, Sp pre ∧ Jx pre B))

theorem range_lawR {g : Operand} {ps : Array Tmp} {assign body : Code} {Q : Exit → Act → World → Prop} {a : Act} {w : World} (h1 : 1 ≤ n) {gf : Nat} {lb : Array Value} (hg : a.eval g = .func (.func gf) #[] lb)
    (eg : ∀ args w, (callFunc gf args).run P w = .ok (.enter gf args) w) {encs : α → Array Value} {Kp : World → World → Prop} {E : α → World → World → Prop} {S Sp : List α → Prop} {N : Nat} (hseq : SeqR (n - 1) P gf lb encs Kp E S Sp N w)
    (hKt : ∀ {A B C : World}, Kp A B → Kp B C → Kp A C) (hKb : ∀ (W : World) (l : Nat) (o o' : Obj), w.heap.size ≤ l → W.heap[l]? = some o → o.isCells = false → o.isWalk = false → Kp W (W.putObj l o'))
    (hE : ∀ x A B, E x A B → KeepsFrom w.heap.size A B) (hps : ∀ x, (encs x).size = ps.size)
    (I : List α → World → Prop) (Ix : Code → List α → World → Prop) (hI : OwnFrom w.heap.size I) (hIx : ∀ c, OwnFrom w.heap.size (Ix c))
    (h0 : I [] w) (Ax : α → World → Act → World → Prop)
    (hAp : ∀ x A a' W' l o o', Ax x A a' W' → w.heap.size ≤ l → A.heap[l]? = some o → W'.heap[l]? = some o → o.isCells = false → Ax x (A.putObj l o') a' (W'.putObj l o'))
    (hassign : ∀ (l : Nat) (pre : List α) (x : α) (A W : World) (K : Act → World → Prop), I pre A → E x A W → pre.length < N → (∀ a' W', Ax x A a' W' → KeepsFrom w.heap.size W W' → Kp W W' → K a' W') →
      assign.wpIn (Fence.wide.inRound l) (n - 1 - 1) P (Exit.then K (fun _ _ _ => False)) { tmps := (ps.zip (encs x)).foldl (fun t (p, v) => t.setIfInBounds p v) a.tmps, defers := [] } W)
    (hbody : ∀ (l : Nat) (pre : List α) (x : α) (A : World) (a' : Act) (W : World), I pre A → Ax x A a' W → pre.length < N → body.wpIn (Fence.wide.inRound l) (n - 1 - 1) P (ownPostG w.heap.size Kp I Ix (pre ++ [x]) W) a' W)
    (hdone : ∀ (D : Nat) (xs : List α) (W : World), w.heap.size ≤ D → S xs → I xs W → W.heap[D]? = some (.deferred (some [])) → Q .normal { a with defers := { target := .collected D, args := #[] } :: a.defers } W)
    (hstop : ∀ (D : Nat) (c : Code) (pre : List α) (W : World), w.heap.size ≤ D → Sp pre → Ix c pre W → W.heap[D]? = some (.deferred (some [])) → c.wpIn Fence.wide n P Q { a with defers := { target := .collected D, args := #[] } :: a.defers } W) :
    (Code.rangeFunc g ps assign body).wpIn Fence.wide n P Q a w := by
  refine wpIn_rangeFunc fun fn _ => ?_
  generalize hD : w.heap.size = D at *
  let r : Loop := { state := .ready, pending := none, fn, tmps := a.tmps, params := ps, assign, body, defers := D }
  let w1 : World := (w.alloc (.deferred (some []))).alloc (.loop r)
  have bk1 : Book D r w1 := by
    refine ⟨?_, ?_⟩
    · have := World.alloc_heap_new (w.alloc (.deferred (some []))) (.loop r)
      rwa [World.size_alloc, hD] at this
    · have := World.alloc_heap_new w (.deferred (some []))
      rw [hD] at this
      exact (Below.heap_alloc _ _ _ (by simp; omega)).trans this
  have i1 : I [] w1 := hI.alloc _ (hI.alloc _ h0)
  have b1 : Below w.heap.size w w1 := ((Below.refl _ w).alloc (Nat.le_refl _) _).alloc (by simp) _
  refine ⟨D + 1, [{ target := .collected D, args := #[] }], w1, { target := .fn (.func gf) lb, args := #[.func (.yield (D + 1)) #[] #[]] }, w1, gf, #[.func (.yield (D + 1)) #[] #[]] ++ lb, w1, ?_, ?_, fun _ _ => trivial, ?_, fun _ => h1, ?_⟩
  · rw [← hD]
    have := run_enterLoop_outer (P := P) (w := w) fn a.tmps ps assign body
    simp only [w1, r, ← hD]
    exact this
  · simp only [resolve, hg]
    simp [go_sem]
  · simp [invoke, go_sem, eg]
  · refine (hseq (D + 1) (fun pre W => I pre W ∧ Book D r W) (fun pre W => ∃ c, Ix c pre W ∧ Book D { r with state := .done, pending := some c } W) w1 b1 ?_ ⟨i1, bk1⟩).mono ?_
    · rintro pre x A W ⟨hi, hbA⟩ hEx hlen
      have hb : Book D r W := hbA.from (Nat.le_refl _) (hE x A W hEx)
      refine ⟨fn, _, assign, body, run_yield hb.1 (hps x), roundIn_of_wpIn trivial (hassign _ pre x A W _ hi hEx hlen fun a' W' hax hkf hkp => ?_)⟩
      have hbW : Book D r W' := hb.from (Nat.le_refl _) hkf
      refine ⟨_, run_beginRound hbW.1 rfl, ?_⟩
      have hb2 := hbW.put { r with state := .busy }
      have k2 : Kp W (W'.putObj (D + 1) (.loop { r with state := .busy })) := hKt hkp (hKb _ _ _ _ (by omega) hbW.1 rfl rfl)
      refine wpIn_mono (hbody _ pre x _ a' _ (hI.putObj _ hi (by omega) hbA.1 rfl) (hAp x A a' W' (D + 1) (.loop r) _ hax (by omega) hbA.1 hbW.1 rfl) hlen) fun e a3 W3 hp => ?_
      have left : ∀ c, KeepsFrom D (W'.putObj (D + 1) (.loop { r with state := .busy })) W3 → Ix c (pre ++ [x]) W3 → ∃ v W4, (Instr.endRound (D + 1) (some c)).run P W3 = .ok v W4 ∧ ((Ending.returned v = .returned (.bool true) ∧ (I (pre ++ [x]) W4 ∧ Book D r W4) ∧ Kp W W4) ∨ (Ending.returned v = .returned (.bool false) ∧ ∃ c, Ix c (pre ++ [x]) W4 ∧ Book D { r with state := .done, pending := some c } W4)) := fun c hk hi3 => by
        obtain ⟨hr, hl, hb4⟩ := round_end (P := P) hb2 (some c) hk
        exact ⟨_, _, hr, .inr ⟨rfl, c, (hIx c).putObj _ hi3 (by omega) hl rfl, hb4⟩⟩
      cases e with
      | normal =>
        obtain ⟨hk, hkp, hi3⟩ := hp
        obtain ⟨hr, hl, hb4⟩ := round_end (P := P) hb2 none hk
        exact ⟨_, _, hr, .inl ⟨rfl, ⟨hI.putObj _ hi3 (by omega) hl rfl, hb4⟩, hKt (hKt k2 hkp) (hKb _ _ _ _ (by omega) hl rfl rfl)⟩⟩
      | ret => exact left _ hp.1 hp.2
      | exit id => exact left _ hp.1 hp.2
      | goto t => exact left _ hp.1 hp.2
      | panic _ => exact hp.elim
      | outgrown => exact hp.elim
    · rintro e W2 ⟨⟨v, rfl⟩, (⟨xs, hS, hi, hb⟩ | ⟨pre, hSp, c, hi, hb⟩)⟩
      · exact ⟨none, _, run_endLoop hb.1 (by simp [r]), hdone _ xs _ (Nat.le_refl _) hS (hI.putObj _ hi (by omega) hb.1 rfl) (hb.put _).2⟩
      · exact ⟨some c, _, run_endLoop hb.1 (by simp), hstop _ c pre _ (Nat.le_refl _) hSp ((hIx c).putObj _ hi (by omega) hb.1 rfl) (hb.put _).2⟩
end

end Go.Proofs.Ytompaldhnbcikaa

/- A region that draws its order: its first n operations read, or call what makes memory of its own, in whatever order; the others come behind them, one by one. One walk of the text's order serves. Own work; no statement. -/
set_option linter.unusedSimpArgs false
set_option linter.unusedVariables false
namespace Go.Proofs.Ytompaldhnbcikaa
open Go.RowKit Go.Sort

section
variable {F : Fence} {n : Nat} {P : Program} {ops : Array Oper} {C : World → Prop}

/-- f operations more in whatever order, each of them quiet; then L. -/
def HeadIn (F : Fence) (n : Nat) (P : Program) (ops : Array Oper) (C : World → Prop) (L : Array Bool → Act → Prop) : Nat → Array Bool → Act → Prop
  | 0, done, a => L done a
  | f + 1, done, a => Region.ready .any ops done ≠ [] ∧ ∀ i ∈ Region.ready .any ops done, qOpIn F n P ops C i (HeadIn F n P ops C L f (done.setIfInBounds i true)) a

/-- Whatever f operations come up from here, they leave the marks M. -/
def headOk (ops : Array Oper) (M : Array Bool) : Nat → Array Bool → Bool
  | 0, done => done == M
  | f + 1, done => !(Region.ready .any ops done).isEmpty && (Region.ready .any ops done).all fun i => headOk ops M f (done.setIfInBounds i true)

theorem headOk_ready {M : Array Bool} {f : Nat} {done : Array Bool} (h : headOk ops M (f + 1) done = true) : Region.ready .any ops done ≠ [] ∧ ∀ i ∈ Region.ready .any ops done, headOk ops M f (done.setIfInBounds i true) = true := by
  simp only [headOk, Bool.and_eq_true, Bool.not_eq_true', List.isEmpty_eq_false_iff, List.all_eq_true] at h
  exact h

theorem unmarked {i j : Nat} {done : Array Bool} (hi : done.getD i true = false) (hij : i ≠ j) : done.setIfInBounds i true ≠ done.setIfInBounds j true := by
  intro e
  have h1 : (done.setIfInBounds i true).getD i false = true := by
    by_cases hlt : i < done.size
    · simp [hlt]
    · simp [Array.getElem?_eq_none (Nat.le_of_not_lt hlt)] at hi
  rw [e] at h1
  have h2 : (done.setIfInBounds j true).getD i false = done.getD i false := getD_set_ne false (Ne.symm hij)
  rw [h2] at h1
  by_cases hlt : i < done.size
  · simp [hlt] at hi h1
    rw [hi] at h1
    cases h1
  · simp [Array.getElem?_eq_none (Nat.le_of_not_lt hlt)] at hi

/-- What may come up first may be taken first. -/
theorem HeadIn.first {L : Array Bool → Act → Prop} {M : Array Bool} {i : Nat} {oi : Oper} {v : Value} (hi : ops[i]? = some oi) (hsel : ∀ (j : Nat) (o : Oper) cs b, ops[j]? = some o → o.op ≠ .select cs b) :
    ∀ (f : Nat) (done : Array Bool) (a : Act), headOk ops M (f + 1) done = true →
      (∀ j oj, ops[j]? = some oj → j ≠ i → done.getD j true = false → (∀ e ∈ oj.after, Region.binds .any e = true → e.on ≠ i) → oi.apart ops oj = true) →
      i ∈ Region.ready .any ops done → YieldsQuiet F n P ops C oi v a → HeadIn F n P ops C L f (done.setIfInBounds i true) (a.put oi.dst v) → HeadIn F n P ops C L (f + 1) done a := by
  intro f
  induction f with
  | zero =>
    intro done a hok _ hr hy H
    obtain ⟨hne, hall⟩ := headOk_ready hok
    refine ⟨hne, fun j hj => ?_⟩
    by_cases hji : j = i
    · subst hji
      exact hy.qOpIn hi H
    · have e1 : done.setIfInBounds i true = M := by simpa [headOk] using hall i hr
      have e2 : done.setIfInBounds j true = M := by simpa [headOk] using hall j hj
      exact absurd (e1.trans e2.symm) (unmarked (mem_ready.1 hr).1 (Ne.symm hji))
  | succ f ih =>
    intro done a hok hfree hr hy H
    obtain ⟨hne, hall⟩ := headOk_ready hok
    refine ⟨hne, fun j hj => ?_⟩
    by_cases hji : j = i
    · subst hji
      exact hy.qOpIn hi H
    · obtain ⟨hjun, oj, hoj, hafter⟩ := mem_ready.1 hj
      have hno : ∀ e ∈ oj.after, Region.binds .any e = true → e.on ≠ i := by
        intro e he hb heq
        have h1 := hafter e he hb
        have h2 := (mem_ready.1 hr).1
        rw [heq] at h1
        by_cases hlt : i < done.size
        · simp [hlt] at h1 h2
          rw [h2] at h1
          cases h1
        · simp [Array.getElem?_eq_none (Nat.le_of_not_lt hlt)] at h1
      have hq := qOpIn_put hoj (hfree j oj hoj hji hjun hno) (fun cs b => hsel i oi cs b hi) (fun cs b => hsel j oj cs b hoj) hy (H.2 j (ready_mono hj hji))
      refine qOpIn_mono (fun a' ⟨hy', hH⟩ => ih _ a' (hall j hj) ?_ (ready_mono hr (Ne.symm hji)) hy' ?_) hq
      · intro k ok hk hki hun hafter'
        refine hfree k ok hk hki ?_ hafter'
        by_cases hjk : j = k
        · subst hjk
          exact hjun
        · rwa [getD_set_ne true hjk] at hun
      · rw [Array.setIfInBounds_comm _ _ hji]
        exact hH

/-- The first operations by the walk of the text's order. -/
theorem headIn_lex {Q : Act → Prop} {M : Array Bool} {g : Nat} (hs : Region.noSelect ops = true) : ∀ (l : List Oper) (k : Nat) (done : Array Bool) (a : Act), (∀ j, j < l.length → l[j]? = ops[k + j]?) →
    Region.lexHead .any ops g l.length k done = true → headOk ops M l.length done = true → wpQuietIn F n P ops C Q l a → HeadIn F n P ops C (fun d a => d = M ∧ Q a) l.length done a
  | [], _, _, _, _, _, hM, h => ⟨by simpa [headOk] using hM, h⟩
  | o :: l, k, done, a, hl, hB, hM, h => by
    have h0 : ops[k]? = some o := by simpa using (hl 0 (by simp)).symm
    simp only [List.length_cons, Region.lexHead, Bool.and_eq_true] at hB
    obtain ⟨⟨hr, hf⟩, hB'⟩ := hB
    have hr' : k ∈ Region.ready .any ops done := by simpa using hr
    have hq : qOpIn F n P ops C k (wpQuietIn F n P ops C Q l) a := by
      unfold qOpIn
      simp only [h0]
      exact h
    obtain ⟨v, hy, hK⟩ := yieldsQuiet_of_qOpIn h0 hq
    refine HeadIn.first h0 (Region.noSelect_spec hs) l.length done a hM (Region.free_spec h0 hf) hr' hy ?_
    refine headIn_lex hs l (k + 1) _ _ (fun j hj => ?_) hB' ((headOk_ready hM).2 k hr') hK
    have := hl (j + 1) (by simp; omega)
    simpa [Nat.add_assoc, Nat.add_comm 1 j] using this

theorem headIn_sound {L : Array Bool → Act → Prop} {Q : Exit → Act → World → Prop} {g : Nat} (hro : F.round = none) (hL : ∀ d a w, C w → L d a → wpAnyIn F n P .any ops Q g d a w) :
    ∀ (f : Nat) (done : Array Bool) (a : Act) (w : World), C w → HeadIn F n P ops C L f done a → wpAnyIn F n P .any ops Q (f + g) done a w
  | 0, done, a, w, hw, h => by rw [Nat.zero_add]; exact hL done a w hw h
  | f + 1, done, a, w, hw, h => by
    rw [Nat.add_right_comm]
    exact ⟨fun e => absurd e h.1, fun i hi => wpOpIn_of_qOpIn hro hw (fun a' w' hw' h' => headIn_sound hro hL f _ a' w' hw' h') (h.2 i hi)⟩

/-- What comes one by one. -/
theorem anyIn_seq {Q : Exit → Act → World → Prop} : ∀ (l : List Oper) (k : Nat) (done : Array Bool) (a : Act) (w : World), (∀ j, l[j]? = ops[k + j]?) →
    Region.seqB .any ops l.length k done = true → wpListIn F n P ops Q l a w → wpAnyIn F n P .any ops Q l.length done a w
  | [], _, _, _, _, _, hB, h => ⟨by simpa [Region.seqB] using hB, h⟩
  | o :: l, k, done, a, w, hl, hB, h => by
    have h0 : ops[k]? = some o := by simpa using (hl 0).symm
    simp only [List.length_cons, Region.seqB, Bool.and_eq_true, decide_eq_true_eq] at hB
    obtain ⟨hr, hB'⟩ := hB
    refine ⟨fun e => (by rw [hr] at e; cases e), fun i hi => ?_⟩
    rw [hr] at hi
    obtain rfl : i = k := by simpa using hi
    have hop : wpOpIn F n P ops Q i (wpListIn F n P ops Q l) a w := by
      unfold wpOpIn
      simp only [h0]
      exact h
    refine wpOpIn_mono (fun a' w' h' => anyIn_seq l (i + 1) _ a' w' (fun j => ?_) hB' h') hop
    have := hl (j + 1)
    simpa [Nat.add_assoc, Nat.add_comm 1 j] using this

/-- What a kernel may reckon of a region: its first m operations come in whatever order, the others behind them, one by one. -/
def tailOk (ops : Array Oper) (m : Nat) (M : Array Bool) : Bool :=
  Region.noSelect ops && decide (m ≤ ops.size) && Region.lexHead .any ops (ops.size - m) m 0 (Array.replicate ops.size false) && headOk ops M m (Array.replicate ops.size false) && Region.seqB .any ops (ops.size - m) m M

/-- A region that draws: the head by its walk in the class of worlds that keep what lay there; the tail in each such world. -/
theorem regionIn_tail {id : Nat} {Q : Exit → Act → World → Prop} {a : Act} {w : World} {l : List Oper} (m : Nat) (M : Array Bool) (hro : F.round = none) (hm : P.follows .mixedOrders = true) (hB : tailOk l.toArray m M = true)
    (h : wpQuietIn F n P l.toArray (fun w' => ∃ p : Regrown, w' = grow (redrawn w p.d) p.os) (fun a' => ∀ w', (∃ p : Regrown, w' = grow (redrawn w p.d) p.os) → wpListIn F n P l.toArray Q (l.drop m) a' w') (l.take m) a) :
    (Code.region id l.toArray true).wpIn F n P Q a w := by
  simp only [tailOk, Bool.and_eq_true, decide_eq_true_eq] at hB
  obtain ⟨⟨⟨⟨hs, hmn⟩, hlex⟩, hok⟩, hseq⟩ := hB
  have hml : m ≤ l.length := by simpa using hmn
  have htl : (l.take m).length = m := by simp; omega
  have hdl : (l.drop m).length = l.toArray.size - m := by simp
  refine wpIn_region_any hm ?_
  have hC : (fun w' => ∃ p : Regrown, w' = grow (redrawn w p.d) p.os) { w with drawn := w.drawn + 1 } := ⟨⟨w.drawn + 1, #[]⟩, by rw [grow_empty]; rfl⟩
  have H := headIn_lex (F := F) (n := n) (M := M) (g := l.toArray.size - m) hs (l.take m) 0 (Array.replicate l.toArray.size false) a (fun j hj => by rw [htl] at hj; simp [hj]) (by rw [htl]; exact hlex) (by rw [htl]; exact hok) h
  rw [htl] at H
  have R := headIn_sound (Q := Q) (g := l.toArray.size - m) hro (fun d a' w' hw' ⟨e, hq⟩ => by
    subst e
    have := anyIn_seq (F := F) (n := n) (P := P) (Q := Q) (ops := l.toArray) (l.drop m) m d a' w' (fun j => by simp [List.getElem?_drop]) (by rw [hdl]; exact hseq) (hq w' hw')
    rwa [hdl] at this) m _ a _ hC H
  rwa [show m + (l.toArray.size - m) = l.toArray.size by simp; omega] at R
end

end Go.Proofs.Ytompaldhnbcikaa

/- rec's Of: the sequence that it answers. Own work; no statement. -/
set_option linter.unusedSimpArgs false
set_option linter.unusedVariables false
namespace Go.Proofs.Ytompaldhnbcikaa
open Go.RowKit Go.Shelf Go.Sort

attribute [local go_sem] Oper.semAt_some

/-- The blocks from lo up to hi are as they were. -/
def KeepsSpan (lo hi : Nat) (W W' : World) : Prop := ∀ k, lo ≤ k → k < hi → W'.heap[k]? = W.heap[k]?
theorem keepsSpan_t {lo hi : Nat} {A B C : World} (h : KeepsSpan lo hi A B) (k : KeepsSpan lo hi B C) : KeepsSpan lo hi A C := fun i h1 h2 => (k i h1 h2).trans (h i h1 h2)
theorem keepsSpan_b {lo hi n : Nat} (hn : hi ≤ n) (W : World) (l : Nat) (o o' : Obj) (hl : n ≤ l) (_ : W.heap[l]? = some o) (_ : o.isCells = false) (_ : o.isWalk = false) : KeepsSpan lo hi W (W.putObj l o') := by
  intro k _ h2
  unfold World.putObj
  simp only [Array.getElem?_setIfInBounds]
  rw [if_neg (by omega)]
theorem KeepsSpan.of_below {lo hi : Nat} {W W' : World} (h : Below W.heap.size W W') (hh : hi ≤ W.heap.size) : KeepsSpan lo hi W W' := fun k _ h2 => h.block k (by omega)

theorem KeepsSpan.size {lo hi : Nat} {W W' : World} (h : KeepsSpan lo hi W W') (hh : hi ≤ W.heap.size) (hl : lo < hi) : hi ≤ W'.heap.size := by
  have e := h (hi - 1) (by omega) (by omega)
  rw [Array.getElem?_eq_getElem (show hi - 1 < W.heap.size by omega)] at e
  have := (Array.getElem?_eq_some_iff.1 e).1
  omega

theorem flat6 : ∀ (pl : List Pl) (k j : Nat) (h : k < pl.length), j < 6 → (pl.flatMap Pl.cells)[k * 6 + j]? = (pl[k]).cells[j]?
  | [], _, _, h, _ => absurd h (by simp)
  | p :: pl, 0, j, _, hj => by
    rw [List.flatMap_cons, List.getElem?_append_left (by simp [Pl.cells]; omega)]
    simp
  | p :: pl, k + 1, j, h, hj => by
    rw [List.flatMap_cons, List.getElem?_append_right (by simp [Pl.cells]; omega)]
    have e : (k + 1) * 6 + j - p.cells.length = k * 6 + j := by simp [Pl.cells]; omega
    rw [e, flat6 pl k j (by simpa using h) hj]
    simp

/-- What the sequence hands over. -/
def encPl (x : Pl) : Array Value := #[.int .i64 x.i, .agg #[.int .i64 x.r.site, .int .i64 x.r.seq, x.vd, .string x.r.key, .string x.r.val]]
/-- From A the sequence has come to B: of what lay there nothing has turned, and x's numbers lie in memory of their own. -/
def GivesPl (x : Pl) (A B : World) : Prop := Below A.heap.size A B ∧ B.ownsRow A.heap.size 3 1 x.vd x.r.dep.length (x.r.dep.map (Value.int .i64)) ∧ x.r.dep.length ≤ 17592186044416

theorem yield_bool {e : Ending} {A B : Prop} (h : (e = .returned (.bool true) ∧ A) ∨ (e = .returned (.bool false) ∧ B)) : ∃ b, e = .returned (.bool b) ∧ ((b = true ∧ A) ∨ (b = false ∧ B)) := by
  rcases h with ⟨rfl, h⟩ | ⟨rfl, h⟩
  · exact ⟨true, rfl, .inl ⟨rfl, h⟩⟩
  · exact ⟨false, rfl, .inr ⟨rfl, h⟩⟩

end Go.Proofs.Ytompaldhnbcikaa

/- The laws' Rows: what a range over numbers and records tells. Own work; no statement. -/
set_option linter.unusedSimpArgs false
set_option linter.unusedVariables false
namespace Go.Proofs.Ytompaldhnbcikaa
open Go.RowKit Go.Shelf Go.Sort

attribute [local go_sem] Oper.semAt_some

theorem Try.info35 : (Try.prog.info? 35).map (fun i => (i.zero, i.size, i.bytes)) = some (some (.agg #[.int .i64 0, .int .i64 0, .slice none 0 0, .string ⟨#[]⟩, .string ⟨#[]⟩]), 5, 72) := by kernel_rfl

theorem size_set (W : World) (a : Addr) (v : Value) : (W.setCell a v).heap.size = W.heap.size := by simp [World.setCell]
/-- 'x = append(x, ..)' by way of x's box B, the rows all beyond the boxes. -/
theorem box_app {W w1 : World} {B n₀ : Nat} {T e : TypeId} {size : Nat} {v v1 : Value} {n m : Nat} {xs ys : List Value} {o : Obj} (hbx : Boxed W B T v) (hrow : W.ownsRow n₀ e size v n xs) (hB : B < n₀) (hn : n₀ ≤ W.heap.size)
    (hown1 : w1.ownsRow n₀ e size v1 m ys) (hgrow : (W.alloc o).grownBy w1 v.ownBlock) :
    Boxed w1 B T v ∧ Boxed (w1.setCell ⟨B, 0, none⟩ v1) B T v1 ∧ (w1.setCell ⟨B, 0, none⟩ v1).ownsRow n₀ e size v1 m ys ∧ KeepsOthers W (w1.setCell ⟨B, 0, none⟩ v1) ∧
      (∀ k, k < W.heap.size → k ≠ B → v.ownBlock ≠ some k → (w1.setCell ⟨B, 0, none⟩ v1).heap[k]? = W.heap[k]?) ∧ (∀ b w, b ≤ B → Below b w W → Below b w (w1.setCell ⟨B, 0, none⟩ v1)) := by
  have hne : some B ≠ v.ownBlock := fun e' => by have := (hrow.lt B e'.symm).1; omega
  have hv1 : Boxed w1 B T v := (hbx.alloc o).kept hgrow hne
  refine ⟨hv1, hv1.set v1, ownsRow_of_heap hown1 (fun k hk => Below.heap_setCell _ _ _ _ (fun e' => by have := (hown1.lt k hk).1; have e2 : k = B := e'; omega)), ?_, ?_, ?_⟩
  · refine ((KeepsOthers.alloc W o).trans (KeepsOthers.of_grownBy hgrow fun j o' ej hj => ?_)).trans (KeepsOthers.setCell _ _ _)
    rcases (hrow.alloc o).2 with ⟨rfl, _⟩ | ⟨g, cap, cur, rfl, _, hgb, _⟩
    · simp [Value.ownBlock] at ej
    · obtain rfl : g = j := by simpa [Value.ownBlock] using ej
      rw [hgb] at hj; cases hj; rfl
  · exact fun k hk hkB hkr => app_other hgrow k hk (fun e' => hkr e'.symm) hkB
  · intro b w hb h
    have := hbx.lt
    exact ((h.alloc (by omega) o).grown hgrow (by simp; omega) (fun j ej => by have := (hrow.lt j ej).1; omega)).setCell (p := ⟨B, 0, none⟩) hb v1

theorem keepsFrom_below {B : Nat} {A W : World} (h : Below A.heap.size A W) : KeepsFrom B A W := ⟨h.size, fun k o _ ho _ => keepB ho h⟩
theorem below_put {A W : World} {l : Nat} {o' : Obj} (h : Below A.heap.size A W) : Below (A.putObj l o').heap.size (A.putObj l o') (W.putObj l o') := by
  refine ⟨h.os, h.tape, h.output, by simpa [World.putObj] using h.size, fun k hk => ?_⟩
  have hk' : k < A.heap.size := by simpa [World.putObj] using hk
  have hs := h.size
  unfold World.putObj
  simp only [Array.getElem?_setIfInBounds]
  by_cases e : l = k
  · subst e
    rw [if_pos rfl, if_pos rfl, if_pos hk', if_pos (by omega)]
  · rw [if_neg e, if_neg e]
    exact h.block k hk'

def Pl.cells5 (p : Pl) : List Value := [.int .i64 p.r.site, .int .i64 p.r.seq, p.vd, .string p.r.key, .string p.r.val]

theorem five_one {p : Pl} {a : Option Addr} {n c : Nat} (h : p.vd = .slice a n c) : ∀ u ∈ p.cells5, u.oneCell' = true := by
  intro u hu
  simp only [Pl.cells5, h, List.mem_cons, List.not_mem_nil, or_false] at hu
  rcases hu with rfl | rfl | rfl | rfl | rfl <;> rfl

theorem flat5 : ∀ (pl : List Pl) (k j : Nat) (h : k < pl.length), j < 5 → (pl.flatMap Pl.cells5)[k * 5 + j]? = (pl[k]).cells5[j]?
  | [], _, _, h, _ => absurd h (by simp)
  | p :: pl, 0, j, _, hj => by
    rw [List.flatMap_cons, List.getElem?_append_left (by simp [Pl.cells5]; omega)]
    simp
  | p :: pl, k + 1, j, h, hj => by
    rw [List.flatMap_cons, List.getElem?_append_right (by simp [Pl.cells5]; omega)]
    have e : (k + 1) * 5 + j - p.cells5.length = k * 5 + j := by simp [Pl.cells5]; omega
    rw [e, flat5 pl k j (by simpa using h) hj]
    simp

/-- A row of records, each one's numbers in a row of their own, read. -/
theorem recs_of_row {w : World} {o : Nat} {v : Value} {l : List Pl} (h : w.ownsRow o 35 5 v l.length (l.flatMap Pl.cells5)) (hd : ∀ p ∈ l, w.ownsRow o 3 1 p.vd p.r.dep.length (p.r.dep.map (Value.int .i64))) : IsRecs w v (l.map (·.r)) := by
  obtain ⟨a, cap, rfl⟩ := ownsRow_slice h
  refine ⟨a, cap, by simp, fun t ht => ?_⟩
  have ht' : t < l.length := by simpa using ht
  rcases h.2 with ⟨e1, e2⟩ | ⟨g, cap', cur, e1, -⟩
  · omega
  · simp only [Value.slice.injEq] at e1
    obtain ⟨rfl, -, rfl⟩ := e1
    have hdep := hd _ (List.getElem_mem ht')
    have hcell : ∀ j, j < 5 → w.cell? ⟨g, t * 5 + j, none⟩ = (l[t]).cells5[j]? := fun j hj => by
      rw [h.cellAt (t * 5 + j) (by omega)]
      exact flat5 l t j ht' hj
    have c0 := hcell 0 (by omega)
    have c1 := hcell 1 (by omega)
    have c2 := hcell 2 (by omega)
    have c3 := hcell 3 (by omega)
    have c4 := hcell 4 (by omega)
    simp only [Pl.cells5, List.getElem?_cons_zero, List.getElem?_cons_succ, Nat.add_zero] at c0 c1 c2 c3 c4
    obtain ⟨da, dcap, hda⟩ := ownsRow_slice hdep
    rw [hda] at c2 hdep
    refine ⟨g, 0, rfl, da, dcap, ?_⟩
    simp only [List.getElem_map, Nat.zero_add]
    exact ⟨c0, c1, c2, c3, c4, IsNums.of_row hdep⟩

/-- What lies in the boxes of Rows, and in its rows. -/
structure InRows (o most : Nat) (la lb : List Pl) (W : World) (va vb : Value) : Prop where
  m : Boxed W o 3 (.int .i64 (most : Int))
  r1 : Boxed W (o + 1) 32 (.slice none 0 0)
  r2 : Boxed W (o + 2) 43 (.slice none 0 0)
  r3 : Boxed W (o + 3) 4 (.bool false)
  a : Boxed W (o + 4) 32 va
  b : Boxed W (o + 5) 43 vb
  ra : W.ownsRow (o + 6) 3 1 va la.length (la.map fun p => .int .i64 p.i)
  rb : W.ownsRow (o + 6) 35 5 vb lb.length (lb.flatMap Pl.cells5)

theorem row_keep {o : Nat} {W W' : World} (hk : ∀ (k : Nat) (c : Array Value) (t : TypeId) (f : Nat × Nat), W.heap[k]? = some (.cells c t f) → W'.heap[k]? = W.heap[k]?) {e : TypeId} {s : Nat} {v : Value} {n : Nat} {xs : List Value} (h : W.ownsRow o e s v n xs) : W'.ownsRow o e s v n xs :=
  ownsRow_of_heap h fun k e' => by
    rcases h.2 with ⟨rfl, _⟩ | ⟨g, cap, cur, rfl, _, hg, _⟩
    · cases e'
    · obtain rfl : g = k := by simpa [Value.ownBlock] using e'
      exact hk _ _ _ _ hg
theorem InRows.keep {o most : Nat} {la lb : List Pl} {W W' : World} {va vb : Value} (h : InRows o most la lb W va vb) (hk : ∀ (k : Nat) (c : Array Value) (t : TypeId) (f : Nat × Nat), W.heap[k]? = some (.cells c t f) → W'.heap[k]? = W.heap[k]?) : InRows o most la lb W' va vb :=
  ⟨boxed_of_heap h.m (hk _ _ _ _ h.m), boxed_of_heap h.r1 (hk _ _ _ _ h.r1), boxed_of_heap h.r2 (hk _ _ _ _ h.r2), boxed_of_heap h.r3 (hk _ _ _ _ h.r3), boxed_of_heap h.a (hk _ _ _ _ h.a), boxed_of_heap h.b (hk _ _ _ _ h.b), row_keep hk h.ra, row_keep hk h.rb⟩
theorem InRows.below {o most : Nat} {la lb : List Pl} {W W' : World} {va vb : Value} (h : InRows o most la lb W va vb) (hb : Below W.heap.size W W') : InRows o most la lb W' va vb :=
  h.keep fun k _ _ _ e => hb.block k (Array.getElem?_eq_some_iff.1 e).1

theorem InRows.appA {o most : Nat} {la lb : List Pl} {W w1 : World} {va vb v1 : Value} {p : Pl} {ob : Obj} (h : InRows o most la lb W va vb) (hown1 : w1.ownsRow (o + 6) 3 1 v1 (la.length + 1) ((la.map fun p => .int .i64 p.i) ++ [.int .i64 p.i])) (hgrow : (W.alloc ob).grownBy w1 va.ownBlock) :
    Boxed w1 (o + 4) 32 va ∧ InRows o most (la ++ [p]) lb (w1.setCell ⟨o + 4, 0, none⟩ v1) v1 vb ∧ KeepsOthers W (w1.setCell ⟨o + 4, 0, none⟩ v1) ∧ (∀ k, k < W.heap.size → k ≠ o + 4 → va.ownBlock ≠ some k → (w1.setCell ⟨o + 4, 0, none⟩ v1).heap[k]? = W.heap[k]?) ∧
      (∀ b w, b ≤ o + 4 → Below b w W → Below b w (w1.setCell ⟨o + 4, 0, none⟩ v1)) := by
  have hlt := h.b.lt
  obtain ⟨x1, x2, x3, x4, x5, x6⟩ := box_app h.a h.ra (by omega) (by omega) hown1 hgrow
  have bk : ∀ k, k < o + 6 → k ≠ o + 4 → (w1.setCell ⟨o + 4, 0, none⟩ v1).heap[k]? = W.heap[k]? := fun k hk hne => x5 k (by omega) hne (fun e => by have := (h.ra.lt k e).1; omega)
  refine ⟨x1, ⟨boxed_of_heap h.m (bk _ (by omega) (by omega)), boxed_of_heap h.r1 (bk _ (by omega) (by omega)), boxed_of_heap h.r2 (bk _ (by omega) (by omega)), boxed_of_heap h.r3 (bk _ (by omega) (by omega)), x2, boxed_of_heap h.b (bk _ (by omega) (by omega)), ?_, ?_⟩, x4, x5, x6⟩
  · rw [List.length_append, List.map_append]
    exact x3
  · exact ownsRow_of_heap h.rb fun k e => x5 k (h.rb.lt k e).2 (by have := (h.rb.lt k e).1; omega) (fun e' => rows_apart (by decide) h.rb h.ra k e e')
theorem InRows.appB {o most : Nat} {la lb : List Pl} {W w1 : World} {va vb v1 : Value} {p : Pl} {ob : Obj} (h : InRows o most la lb W va vb) (hown1 : w1.ownsRow (o + 6) 35 5 v1 (lb.length + 1) (lb.flatMap Pl.cells5 ++ p.cells5)) (hgrow : (W.alloc ob).grownBy w1 vb.ownBlock) :
    Boxed w1 (o + 5) 43 vb ∧ InRows o most la (lb ++ [p]) (w1.setCell ⟨o + 5, 0, none⟩ v1) va v1 ∧ KeepsOthers W (w1.setCell ⟨o + 5, 0, none⟩ v1) ∧ (∀ k, k < W.heap.size → k ≠ o + 5 → vb.ownBlock ≠ some k → (w1.setCell ⟨o + 5, 0, none⟩ v1).heap[k]? = W.heap[k]?) ∧
      (∀ b w, b ≤ o + 5 → Below b w W → Below b w (w1.setCell ⟨o + 5, 0, none⟩ v1)) := by
  have hlt := h.b.lt
  obtain ⟨x1, x2, x3, x4, x5, x6⟩ := box_app h.b h.rb (by omega) (by omega) hown1 hgrow
  have bk : ∀ k, k < o + 6 → k ≠ o + 5 → (w1.setCell ⟨o + 5, 0, none⟩ v1).heap[k]? = W.heap[k]? := fun k hk hne => x5 k (by omega) hne (fun e => by have := (h.rb.lt k e).1; omega)
  refine ⟨x1, ⟨boxed_of_heap h.m (bk _ (by omega) (by omega)), boxed_of_heap h.r1 (bk _ (by omega) (by omega)), boxed_of_heap h.r2 (bk _ (by omega) (by omega)), boxed_of_heap h.r3 (bk _ (by omega) (by omega)), boxed_of_heap h.a (bk _ (by omega) (by omega)), x2, ?_, ?_⟩, x4, x5, x6⟩
  · exact ownsRow_of_heap h.ra fun k e => x5 k (h.ra.lt k e).2 (by have := (h.ra.lt k e).1; omega) (fun e' => rows_apart (by decide) h.ra h.rb k e e')
  · rw [List.length_append, List.flatMap_append]
    simpa using x3

end Go.Proofs.Ytompaldhnbcikaa
