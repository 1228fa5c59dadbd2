/- disk's shorten, Crash, Cut. Own work; no statement. -/
import Derived.Test.YtheaifgoleklpaaD3b
import Derived.Test.YtheaifgoleklpaaHeldT
import Derived.Test.YtheaifgoleklpaaTailR
set_option linter.unusedSimpArgs false
set_option linter.unusedVariables false
namespace Go.Proofs.Ytheaifgoleklpaa
open Go.RowKit Go.Shelf

attribute [local go_sem] Oper.semAt_some

/-- The bytes that are left when the lines from n on, as far as the k-th, are taken off. -/
def leftOf (l : List ByteArray) (n k : Nat) : Nat := bytesOf l - bytesOf ((l.take k).drop n)

theorem leftOf_le (l : List ByteArray) (n k : Nat) : leftOf l n k ≤ bytesOf l := Nat.sub_le _ _
theorem leftOf_low (l : List ByteArray) (n k : Nat) (h : k ≤ n) : leftOf l n k = bytesOf l := by
  unfold leftOf
  rw [List.drop_eq_nil_of_le (by simp; omega)]
  simp [bytesOf]
theorem leftOf_step (l : List ByteArray) (n k : Nat) (h : n ≤ k) (hk : k < l.length) : (leftOf l n (k + 1) : Int) = (leftOf l n k : Int) - ((l[k].size : Int) + 1) ∧ l[k].size + 1 ≤ leftOf l n k := by
  have h1 : (l.take (k + 1)).drop n = (l.take k).drop n ++ [l[k]] := by
    rw [List.take_add_one, List.getElem?_eq_getElem hk, Option.toList_some, List.drop_append_of_le_length (by simp; omega)]
  have h2 : bytesOf ((l.take k).drop n) + (l[k].size + 1) ≤ bytesOf l := by
    have e1 := bytesOf_take l (k + 1)
    have e2 := bytesOf_take (l.take (k + 1)) n
    rw [h1, bytesOf_append] at e2
    simp [bytesOf] at e2 e1 ⊢
    omega
  have h3 : bytesOf ((l.take (k + 1)).drop n) = bytesOf ((l.take k).drop n) + (l[k].size + 1) := by rw [h1, bytesOf_append]; simp [bytesOf]
  unfold leftOf
  rw [h3]
  omega
theorem leftOf_end (l : List ByteArray) (n : Nat) : leftOf l n l.length = bytesOf (l.take n) := by
  unfold leftOf
  rw [List.take_of_length_le (Nat.le_refl _)]
  have := bytesOf_take l n
  omega

/-- A disk while its lines are counted: the number of its bytes lags behind. -/
structure InShort (W : World) (B p : Nat) (v : Value) (D : DiskD) (n k s : Nat) : Prop where
  b0 : Boxed W s 25 (.pointer (some ⟨p, 0, none⟩))
  b1 : Boxed W (s + 1) 3 (.int .i64 (n : Int))
  p : W.heap[p]? = some (.cells #[.int .i64 D.room, .int .i64 (leftOf D.lines n k), .int .i64 D.lasts, v] 58 (0, 0))
  r : W.ownsRow B 9 1 v D.lines.length (D.lines.map Value.string)

theorem InShort.own {X Y : World} {row : Option Nat} {B p : Nat} {v : Value} {D : DiskD} {n k s : Nat} (h : InShort X B p v D n k s) (hg : X.grownBy Y row) (hrow : ∀ r, row = some r → ∃ o : Obj, X.heap[r]? = some o ∧ o.isCells = false) : InShort Y B p v D n k s :=
  ⟨boxed_own' hg hrow h.b0, boxed_own' hg hrow h.b1, (own_keeps hg hrow h.p).trans h.p, ownsRow_own' hg hrow h.r⟩

theorem InShort.skip {W : World} {B p : Nat} {v : Value} {D : DiskD} {n k s : Nat} (h : InShort W B p v D n k s) (hk : k < n) : InShort W B p v D n (k + 1) s :=
  ⟨h.b0, h.b1, by rw [leftOf_low _ _ _ (by omega), ← leftOf_low D.lines n k (by omega)]; exact h.p, h.r⟩
theorem InShort.step {W W' : World} {B p : Nat} {v : Value} {D : DiskD} {n k s : Nat} {x : Int} (h : InShort W B p v D n k s) (hw : W'.heap = W.heap) (hL : (leftOf D.lines n (k + 1) : Int) = x) (hp : p < s) : InShort (W'.setCell ⟨p, 1, none⟩ (.int .i64 x)) B p v D n (k + 1) s := by
  have ht : ∀ k, k ≠ p → (W'.setCell ⟨p, 1, none⟩ (.int .i64 x)).heap[k]? = W.heap[k]? := fun k hk => (Below.heap_setCell _ _ _ _ hk).trans (by rw [hw])
  refine ⟨boxed_of_heap h.b0 (ht _ (by omega)), boxed_of_heap h.b1 (ht _ (by omega)), ?_, ownsRow_of_heap h.r fun k e => ht k fun e' => row_not h.r h.p (by decide) (by rw [e, e'])⟩
  rw [hL]
  exact setAt (j := 1) (show W'.heap[p]? = _ by rw [hw]; exact h.p) (.int .i64 x)
theorem keepsOthers_same {W W' : World} (h : W'.heap = W.heap) : KeepsOthers W W' := ⟨by rw [h]; exact Nat.le_refl _, fun k o e _ => by rw [h]; exact e⟩

set_option maxRecDepth 100000 in
set_option maxHeartbeats 4000000 in
theorem diskShorten_calls (B p : Nat) (g : Option Nat) (D : DiskD) (n : Nat) (w : World) (hd : IsDisk w B p g D) (hn : n ≤ D.lines.length) :
    Calls Try.prog 32 #[.pointer (some ⟨p, 0, none⟩), .int .i64 (n : Int)] w fun e w' => e = .returned (.tuple #[]) ∧ IsDisk w' B p g ⟨D.room, D.lines.take n, n⟩ ∧ Touch (onDisk p g) w w' := by
  obtain ⟨W0, hW0⟩ : ∃ W0, (w.alloc (.cells #[.pointer (some ⟨p, 0, none⟩)] 25)).alloc (.cells #[.int .i64 (n : Int)] 3) = W0 := ⟨_, rfl⟩
  have HB0 : Below w.heap.size w W0 := by rw [← hW0]; exact ((Below.refl _ w).alloc (Nat.le_refl _) _).alloc (by simp) _
  have hs0 : W0.heap.size = w.heap.size + 2 := by rw [← hW0]; simp
  have x0 : Boxed W0 w.heap.size 25 (.pointer (some ⟨p, 0, none⟩)) := by rw [← hW0]; exact (Boxed.new w _ _).alloc _
  have x1 : Boxed W0 (w.heap.size + 1) 3 (.int .i64 (n : Int)) := by
    have := Boxed.new (w.alloc (.cells #[.pointer (some ⟨p, 0, none⟩)] 25)) 3 (.int .i64 (n : Int))
    rw [hW0, World.size_alloc] at this
    exact this
  have C := hide (diskLines_calls B p g D W0 (hd.new HB0))
  have hp := hd.lt
  have hl := hd.len
  have q0 := x0.cell
  have Hd := hide hd
  have HW := hide hW0
  clear hW0 hd
  refine (callsIn_wide (n := 5)).1 ?_
  refine callsIn_of_wp_marks Try.func32 rfl trivial ?_ rfl
  simp only [Try.ntmps32, List.size_toArray, List.length_cons, List.length_nil, Nat.reduceAdd, Nat.reduceSub, Array.replicate_succ, Array.replicate_zero, List.push_toArray, List.append_toArray, List.nil_append, List.cons_append]
  refine wpIn_wide.2 ?_
  go_wp2_with fail
  go_step3
  go_wp2_with fail
  rw [HW.out]
  go_step3
  go_wp2_with fail
  refine C.out.mono ?_
  rintro e w1 ⟨b, rfl, hb, hseq, hB1⟩
  go_wp2_with fail
  obtain ⟨vs, gs, hbox, hvs, hrow⟩ := hseq
  have hB01 := HB0.trans (hB1.mono HB0.size)
  obtain ⟨a, cap, -, -, -, -, -, hv, hr, hp'⟩ := Hd.out.open
  have s1 := hB1.size
  have i0 : InShort w1 B p (.slice a D.lines.length cap) D n 0 w.heap.size := ⟨boxed_of_heap x0 (hB1.block _ (by omega)), boxed_of_heap x1 (hB1.block _ (by omega)), by rw [leftOf_low _ _ _ (Nat.zero_le _)]; exact (hB01.block p hp).trans hp', ownsRow_of_heap hr fun k e => hB01.block k (hr.lt k e).2⟩
  have hin : ∀ k, onDisk b gs k → k < w1.heap.size ∧ k ≠ p := fun k hk => by
    rcases hk with rfl | e
    · exact ⟨ltAt hbox, by omega⟩
    · exact ⟨(hrow.lt k (hvs.trans e)).2, fun e' => row_not hrow i0.p (by decide) (by rw [hvs, e, e'])⟩
  have Hr := hide hr
  have Hv := hide hv
  have Hin := hide hin
  have u2 := hide (fun s w h => diskSize_calls s w h)
  refine (wpIn_wide (n := 5)).1 ?_
  refine range_lawL (by decide) (gf := 34) (lb := #[.pointer (some ⟨b, 0, none⟩)]) rfl (enters_of Try.func34 (by kernel_rfl) rfl)
    (lines_seq 4 (by decide) b vs gs D.lines (by omega) w1 hbox hvs hrow) keepsSeq_t (keepsSeq_b fun k hk => (hin k hk).1) (fun _ => rfl)
    (fun k W => InShort W B p (.slice a D.lines.length cap) D n k w.heap.size ∧ Touch (onDisk p g) w W)
    (fun _ _ _ => False)
    (OwnFrom.and (Own.from (fun k X Y row hs hg hr => hs.own hg hr) _) (ownFrom_touch (by omega)))
    (fun _ _ _ _ _ hs _ _ => hs)
    ⟨i0, touch_new hB01⟩
    (fun x => { tmps := #[.pointer (some ⟨p, 0, none⟩), .int .i64 (n : Int), .pointer (some ⟨w.heap.size, 0, none⟩), .pointer (some ⟨w.heap.size + 1, 0, none⟩), .int .i64 (x.1 : Int), .string x.2, .pointer (some ⟨p, 0, none⟩), .func (.func 34) #[] #[.pointer (some ⟨b, 0, none⟩)], .int .i64 (x.1 : Int), .string x.2, undef, undef, undef, undef, undef, undef, undef, undef, undef, undef, undef, undef, undef, undef, undef, undef, undef, undef, undef, undef, undef, undef, undef, undef, undef, undef, undef, undef, undef, undef], defers := [] }) ?assign ?body ?done ?stop
  case assign =>
    intro l x W K hK
    clear x0 x1 q0 hbox hrow hr hp' i0
    dsimp only [encLine]
    gi_wp2
    exact hK
  case body =>
    clear x0 x1 q0 hbox hrow hr hp' i0 hin
    rintro lp k hk W ⟨hin, hT⟩
    rw [placed_get]
    have hk' : k < D.lines.length := by rw [placed_length] at hk; exact hk
    have c1 := hin.b1.cell
    have c0 := hin.b0.cell
    have e1 := cellsAt hin.p 1
    simp only [List.getElem?_toArray, List.getElem?_cons_zero, List.getElem?_cons_succ] at e1
    have f1 := frozenAt hin.p 1
    have hle := leftOf_le D.lines n k
    by_cases hkn : k < n
    · have hknI : (k : Int) < (n : Int) := by omega
      have I := hide hin
      clear hin
      gi_wp2
      exact ⟨KeepsFrom.refl _ _, fun _ _ => rfl, I.out.skip hkn, hT⟩
    · have hknI : ¬ (k : Int) < (n : Int) := by omega
      obtain ⟨hst, hsz⟩ := leftOf_step D.lines n k (by omega) hk'
      obtain ⟨s, hs⟩ : ∃ s, D.lines[k] = s := ⟨_, rfl⟩
      rw [hs] at hst hsz ⊢
      generalize leftOf D.lines n k = L at *
      have I := hide hin
      clear hin hs
      gi_wp2_with fail
      refine regionIn_tail_r 7 #[true, true, true, true, true, true, true, false, false, false] (by kernel_rfl) (by kernel_rfl) (by kernel_rfl) ?_
      simp only [List.take_succ_cons, List.take_zero, List.drop_succ_cons, List.drop_zero]
      first | gi_big_quiet_step (fail) | quiet_step_in (fail)
      first | gi_big_quiet_step (fail) | quiet_step_in (fail)
      first | gi_big_quiet_step (fail) | quiet_step_in (fail)
      first | gi_big_quiet_step (fail) | quiet_step_in (fail)
      first | gi_big_quiet_step (fail) | quiet_step_in (fail)
      refine wpQuietIn_step (fun _ _ _ _ => trivial) (fun K hK => ?_)
      go_simp
      apply Exists.intro
      refine ⟨fun _ => CallsIn.quiet_of_same (CallsIn.inRound lp (callsIn_wide.2 (u2.out s _ (by omega)))), hK _ ?_⟩
      clear hK K
      first | gi_big_quiet_step (fail) | quiet_step_in (fail)
      refine wpQuietIn_nil ?_
      intro w' hw'
      obtain ⟨nq, rfl⟩ := hw'
      gi_wp2_with fail
      have J := I.out.step (W' := W.drewN nq) rfl hst (by omega)
      refine ⟨((keepsOthers_same (W := W) (W' := W.drewN nq) rfl).trans (KeepsOthers.setCell _ _ _)).from _, fun k hk => Below.heap_setCell _ _ _ _ (Hin.out k hk).2, J, (hT.drewN nq).set _ _ (.inl rfl)⟩
  case done =>
    rintro Dd W hD ⟨h, hT⟩ hK
    rw [placed_length] at h
    have hp1 := h.p
    rw [leftOf_end] at hp1
    have c0 := h.b0.cell
    have c1 := h.b1.cell
    have c3 := cellsAt hp1 3
    simp only [List.getElem?_toArray, List.getElem?_cons_zero, List.getElem?_cons_succ] at c3
    have Hp1 := hide hp1
    have Hh := hide h
    clear x0 x1 q0 hbox hrow hr hp' i0 hin C h hp1
    go_wp2_with fail
    refine region_headT 12 (fun w2 => w2.cell? ⟨w.heap.size, 0, none⟩ = some (.pointer (some ⟨p, 0, none⟩)) ∧ w2.cell? ⟨w.heap.size + 1, 0, none⟩ = some (.int .i64 (n : Int)) ∧ w2.cell? ⟨p, 3, none⟩ = some (.slice a D.lines.length cap)) (by kernel_rfl) (by decide) ?_
    refine HeadT.take 0 (.pointer (some ⟨p, 0, none⟩)) rfl (by kernel_rfl) (.inl ⟨rfl, fun w2 ⟨s0, s1, s2⟩ => by go_simp⟩) ⟨c0, c1, c3⟩ ?_
    refine HeadT.take 1 (.pointer (some ⟨p, 0, none⟩)) rfl (by kernel_rfl) (.inl ⟨rfl, fun w2 ⟨s0, s1, s2⟩ => by go_simp⟩) ⟨c0, c1, c3⟩ ?_
    refine HeadT.take 2 (.pointer (some ⟨p, 0, none⟩)) rfl (by kernel_rfl) (.inl ⟨rfl, fun w2 ⟨s0, s1, s2⟩ => by go_simp⟩) ⟨c0, c1, c3⟩ ?_
    refine HeadT.take 3 (.pointer (some ⟨p, 3, none⟩)) rfl (by kernel_rfl) (.inl ⟨rfl, fun w2 ⟨s0, s1, s2⟩ => by go_simp⟩) ⟨c0, c1, c3⟩ ?_
    refine HeadT.take 4 (.slice a D.lines.length cap) rfl (by kernel_rfl) (.inl ⟨rfl, fun w2 ⟨s0, s1, s2⟩ => by go_simp⟩) ⟨c0, c1, c3⟩ ?_
    refine HeadT.take 5 (.int .i64 (n : Int)) rfl (by kernel_rfl) (.inl ⟨rfl, fun w2 ⟨s0, s1, s2⟩ => by go_simp⟩) ⟨c0, c1, c3⟩ ?_
    refine HeadT.take 6 (.pointer (some ⟨p, 0, none⟩)) rfl (by kernel_rfl) (.inl ⟨rfl, fun w2 ⟨s0, s1, s2⟩ => by go_simp⟩) ⟨c0, c1, c3⟩ ?_
    refine HeadT.take 7 (.pointer (some ⟨p, 0, none⟩)) rfl (by kernel_rfl) (.inl ⟨rfl, fun w2 ⟨s0, s1, s2⟩ => by go_simp⟩) ⟨c0, c1, c3⟩ ?_
    refine HeadT.take 8 (.pointer (some ⟨p, 3, none⟩)) rfl (by kernel_rfl) (.inl ⟨rfl, fun w2 ⟨s0, s1, s2⟩ => by go_simp⟩) ⟨c0, c1, c3⟩ ?_
    refine HeadT.take 9 (.slice a D.lines.length cap) rfl (by kernel_rfl) (.inl ⟨rfl, fun w2 ⟨s0, s1, s2⟩ => by go_simp⟩) ⟨c0, c1, c3⟩ ?_
    refine HeadT.take 10 (.int .i64 (D.lines.length : Int)) rfl (by kernel_rfl) (.inl ⟨rfl, fun w2 ⟨s0, s1, s2⟩ => by go_simp⟩) ⟨c0, c1, c3⟩ ?_
    refine HeadT.only 11 (by kernel_rfl) ?_
    have hW : W.ownsRow B 9 1 (.slice a D.lines.length cap) D.lines.length (D.lines.map Value.string) := Hh.out.r
    refine wpOp_call rfl rfl 37 #[.slice a D.lines.length cap, .int .i64 (n : Int), .int .i64 (D.lines.length : Int)] (by go_simp) (deleteTail_calls B n cap a D.lines W.drew hW hn) ?_
    rintro e w2 ⟨rfl, hown, ht2⟩
    have hne : ∀ (k : Nat) (c : Array Value) (t : TypeId) (f : Nat × Nat), W.heap[k]? = some (Obj.cells c t f) → t ≠ 9 → w2.heap[k]? = W.heap[k]? := fun k c t f e ht => ht2.block k (ltAt e) fun e' => row_not hW e ht e'.symm
    have hp2 := (hne p _ _ _ Hp1.out (by decide)).trans Hp1.out
    have y0 := boxed_of_heap Hh.out.b0 (hne _ _ _ _ Hh.out.b0 (by decide))
    have y1 := boxed_of_heap Hh.out.b1 (hne _ _ _ _ Hh.out.b1 (by decide))
    have d0 := y0.cell
    have d1 := y1.cell
    have d3 := cellsAt hp2 3
    have d2 := cellsAt hp2 2
    simp only [List.getElem?_toArray, List.getElem?_cons_zero, List.getElem?_cons_succ] at d3 d2
    have l3 := frozenAt hp2 3
    have l2 := frozenAt hp2 2
    refine ⟨_, rfl, ⟨d0, d1, d3⟩, ?_⟩
    refine HeadT.tail rfl (by kernel_rfl) ?_
    have hK2 : w2.heap[Dd]? = some (.deferred (some [])) := by
      refine (ht2.block Dd (ltAt hK) fun e' => ?_).trans hK
      rcases hW.2 with ⟨h0, _⟩ | ⟨g', cap', cur, h0, _, hg', _⟩
      · rw [h0] at e'; cases e'
      · rw [h0] at e'
        obtain rfl : g' = Dd := by simpa [Value.ownBlock] using e'
        rw [hK] at hg'
        simp at hg'
    have T2 : Touch (onDisk p g) w w2 := hT.trans ((⟨ht2.os, ht2.tape, ht2.output, ht2.size, ht2.block⟩ : Touch _ W w2).mono fun k _ e => .inr (hv.symm.trans e))
    have Hp2 := hide hp2
    have Ho := hide hown
    have HT := hide T2
    have HK := hide hK2
    clear c0 c1 c3 hK hT hown hp2 ht2 T2 hK2 hne hW
    simp only [List.drop_succ_cons, List.drop_zero]
    go_wp2_with fail
    simp only [noPanic]
    go_wp2_with fail
    obtain ⟨W3, hW3⟩ : ∃ W3, (w2.setCell ⟨p, 3, none⟩ (.slice a n cap)).setCell ⟨p, 2, none⟩ (.int .i64 (n : Int)) = W3 := ⟨_, rfl⟩
    have hp3 : W3.heap[p]? = some (.cells #[.int .i64 D.room, .int .i64 (bytesOf (D.lines.take n)), .int .i64 (n : Int), .slice a n cap] 58 (0, 0)) := by
      rw [← hW3]; exact setAt (j := 2) (setAt (j := 3) Hp2.out _) _
    have hoth : ∀ k, k ≠ p → W3.heap[k]? = w2.heap[k]? := fun k hk => by rw [← hW3]; exact (Below.heap_setCell _ _ _ _ hk).trans (Below.heap_setCell _ _ _ _ hk)
    have T3 : Touch (onDisk p g) w W3 := by rw [← hW3]; exact (HT.out.set _ _ (.inl rfl)).set _ _ (.inl rfl)
    have K3 : W3.heap[Dd]? = some (.deferred (some [])) := (hoth Dd (by omega)).trans HK.out
    have hlen : (D.lines.take n).length = n := by simp; omega
    have R3 : W3.ownsRow B 9 1 (.slice a n cap) n ((D.lines.take n).map Value.string) := ownsRow_of_heap Ho.out fun k e => hoth k fun e' => row_not Ho.out Hp2.out (by decide) (by rw [e, e'])
    have I3 : IsDisk W3 B p g ⟨D.room, D.lines.take n, n⟩ := by
      refine ⟨⟨Hd.out.ok.low, Hd.out.ok.high, ?_, by simp; omega⟩, Hd.out.low, .slice a n cap, (by rw [← hv]; cases a <;> rfl), hp3, ?_⟩
      · have := bytesOf_take D.lines n
        have := Hd.out.ok.fits
        dsimp only
        omega
      · dsimp only
        rw [hlen]
        exact R3
    rw [hW3]
    clear d0 d1 d2 d3 l2 l3 hW3
    refine ⟨by simp, .inl ⟨_, _, rfl, run_takeDeferred K3, ?_⟩⟩
    have hg := grownBy_putObj' W3 Dd (.deferred none)
    have hr : ∀ r, some Dd = some r → ∃ o : Obj, W3.heap[r]? = some o ∧ o.isCells = false := fun r e => by cases e; exact ⟨_, K3, rfl⟩
    exact ⟨_, results_none rfl _ _ _, rfl, I3.own hg hr, ownFrom_touch (β := Unit) (show w.heap.size ≤ w.heap.size from Nat.le_refl _) () W3 _ _ T3 hg fun r e => ⟨by cases e; omega, hr r e⟩⟩
  case stop =>
    rintro D c k W _ _ h _
    exact h.elim

end Go.Proofs.Ytheaifgoleklpaa
