/- disk's Crash, Cut. Own work; no statement. -/
import Derived.Test.YtheaifgoleklpaaD4
set_option linter.unusedSimpArgs false
set_option linter.unusedVariables false
namespace Go.Proofs.Ytheaifgoleklpaa
open Go.RowKit Go.Shelf

attribute [local go_sem] Oper.semAt_some

/-- How many first lines are whole within so many bytes. -/
def keepN : List ByteArray → Int → Nat
  | [], _ => 0
  | s :: r, k => if (s.size : Int) + 1 ≤ k then keepN r (k - ((s.size : Int) + 1)) + 1 else 0

theorem keepN_le : ∀ (l : List ByteArray) (k : Int), keepN l k ≤ l.length
  | [], _ => by simp [keepN]
  | s :: r, k => by
    unfold keepN
    split
    · have := keepN_le r (k - ((s.size : Int) + 1))
      simp
      omega
    · simp

/-- How many lines a crash lets stay. -/
def wholeN (D : DiskD) (keep : Int) : Nat := D.lasts + keepN (D.lines.drop D.lasts) keep
def crashD (D : DiskD) (keep : Int) : DiskD := ⟨D.room, D.lines.take (wholeN D keep), wholeN D keep⟩

theorem wholeN_le {D : DiskD} (h : D.ok) (keep : Int) : wholeN D keep ≤ D.lines.length := by
  have := keepN_le (D.lines.drop D.lasts) keep
  have := h.lasts
  unfold wholeN
  simp at *
  omega

/-- What the walk over the lines has found by the k-th: so many bytes are left of keep. -/
def CrashAt (D : DiskD) (keep : Int) (k : Nat) (left : Int) : Prop :=
  left ≤ max keep 0 ∧ (keep ≤ left ∨ 0 ≤ left) ∧ wholeN D keep = max k D.lasts + keepN (D.lines.drop (max k D.lasts)) left

theorem crashAt_start (D : DiskD) (keep : Int) : CrashAt D keep 0 keep := ⟨by omega, .inl (by omega), by simp [wholeN]⟩
theorem crashAt_low {D : DiskD} {keep left : Int} {k : Nat} (h : CrashAt D keep k left) (hk : k < D.lasts) : CrashAt D keep (k + 1) left := by
  refine ⟨h.1, h.2.1, ?_⟩
  rw [h.2.2, show max (k + 1) D.lasts = max k D.lasts by omega]
theorem crashAt_step {D : DiskD} {keep left : Int} {k : Nat} (h : CrashAt D keep k left) (hk : D.lasts ≤ k) (hl : k < D.lines.length) (hs : (D.lines[k].size : Int) + 1 ≤ left) : CrashAt D keep (k + 1) (left - ((D.lines[k].size : Int) + 1)) := by
  refine ⟨by have := h.1; omega, .inr (by omega), ?_⟩
  rw [h.2.2, show max k D.lasts = k by omega, show max (k + 1) D.lasts = k + 1 by omega, List.drop_eq_getElem_cons hl, keepN, if_pos hs]
  omega
theorem crashAt_stop {D : DiskD} {keep left : Int} {k : Nat} (h : CrashAt D keep k left) (hk : D.lasts ≤ k) (hl : k < D.lines.length) (hs : ¬ (D.lines[k].size : Int) + 1 ≤ left) : wholeN D keep = k := by
  rw [h.2.2, show max k D.lasts = k by omega, List.drop_eq_getElem_cons hl, keepN, if_neg hs]
  omega
theorem crashAt_end {D : DiskD} {keep left : Int} (h : CrashAt D keep D.lines.length left) (hk : D.lasts ≤ D.lines.length) : wholeN D keep = D.lines.length := by
  rw [h.2.2, show max D.lines.length D.lasts = D.lines.length by omega, List.drop_eq_nil_of_le (Nat.le_refl _)]
  simp [keepN]

/-- Within Crash's loop. -/
structure InCrash (W : World) (B p : Nat) (g : Option Nat) (D : DiskD) (left : Int) (k s : Nat) : Prop where
  b0 : Boxed W s 25 (.pointer (some ⟨p, 0, none⟩))
  b1 : Boxed W (s + 1) 3 (.int .i64 left)
  b2 : Boxed W (s + 2) 3 (.int .i64 (k : Int))
  d : IsDisk W B p g D

theorem InCrash.own {X Y : World} {row : Option Nat} {B p : Nat} {g : Option Nat} {D : DiskD} {left : Int} {k s : Nat} (h : InCrash X B p g D left k s) (hg : X.grownBy Y row) (hrow : ∀ r, row = some r → ∃ o : Obj, X.heap[r]? = some o ∧ o.isCells = false) : InCrash Y B p g D left k s :=
  ⟨boxed_own' hg hrow h.b0, boxed_own' hg hrow h.b1, boxed_own' hg hrow h.b2, h.d.own hg hrow⟩

/-- A disk beside a box. -/
theorem IsDisk.off {W : World} {B p : Nat} {g : Option Nat} {D : DiskD} {b : Nat} {t : TypeId} {c : Array Value} {f : Nat × Nat} (h : IsDisk W B p g D) (hb : W.heap[b]? = some (.cells c t f)) (h1 : t ≠ 58) (h2 : t ≠ 9) : ∀ k, onDisk p g k → k ≠ b := by
  obtain ⟨v, hv, hp, hr⟩ := h.val
  rintro k (rfl | e) rfl
  · rw [hp] at hb
    simp only [Option.some.injEq, Obj.cells.injEq] at hb
    exact h1 hb.2.1.symm
  · exact row_not hr hb h2 (by rw [hv, e])
theorem IsDisk.setBox {W W' : World} {B p : Nat} {g : Option Nat} {D : DiskD} {b : Nat} {t : TypeId} {v v' : Value} (h : IsDisk W B p g D) (hw : W'.heap = W.heap) (hb : Boxed W b t v) (h1 : t ≠ 58) (h2 : t ≠ 9) : IsDisk (W'.setCell ⟨b, 0, none⟩ v') B p g D :=
  h.keep fun k hk => (Below.heap_setCell _ _ _ _ (h.off hb h1 h2 k hk)).trans (by rw [hw])

theorem InCrash.same {W W' : World} {B p : Nat} {g : Option Nat} {D : DiskD} {left : Int} {k s : Nat} (h : InCrash W B p g D left k s) (hw : W'.heap = W.heap) : InCrash W' B p g D left k s :=
  ⟨boxed_of_heap h.b0 (by rw [hw]), boxed_of_heap h.b1 (by rw [hw]), boxed_of_heap h.b2 (by rw [hw]), h.d.keep fun _ _ => by rw [hw]⟩
theorem InCrash.count {W W' : World} {B p : Nat} {g : Option Nat} {D : DiskD} {left : Int} {k s : Nat} (h : InCrash W B p g D left k s) (hw : W'.heap = W.heap) : InCrash (W'.setCell ⟨s + 2, 0, none⟩ (.int .i64 ((k : Int) + 1))) B p g D left (k + 1) s := by
  have ht : ∀ j, j ≠ s + 2 → (W'.setCell ⟨s + 2, 0, none⟩ (.int .i64 ((k : Int) + 1))).heap[j]? = W.heap[j]? := fun j hj => (Below.heap_setCell _ _ _ _ hj).trans (by rw [hw])
  exact ⟨boxed_of_heap h.b0 (ht _ (by omega)), boxed_of_heap h.b1 (ht _ (by omega)), (boxed_of_heap h.b2 (by rw [hw])).set _, h.d.setBox hw h.b2 (by decide) (by decide)⟩
theorem InCrash.spend {W W' : World} {B p : Nat} {g : Option Nat} {D : DiskD} {left left' : Int} {k s : Nat} (h : InCrash W B p g D left k s) (hw : W'.heap = W.heap) : InCrash (W'.setCell ⟨s + 1, 0, none⟩ (.int .i64 left')) B p g D left' k s := by
  have ht : ∀ j, j ≠ s + 1 → (W'.setCell ⟨s + 1, 0, none⟩ (.int .i64 left')).heap[j]? = W.heap[j]? := fun j hj => (Below.heap_setCell _ _ _ _ hj).trans (by rw [hw])
  exact ⟨boxed_of_heap h.b0 (ht _ (by omega)), (boxed_of_heap h.b1 (by rw [hw])).set _, boxed_of_heap h.b2 (ht _ (by omega)), h.d.setBox hw h.b1 (by decide) (by decide)⟩
theorem Touch.setNew {S : Nat → Prop} {w w' : World} (t : Touch S w w') (a : Addr) (v : Value) (h : w.heap.size ≤ a.block) : Touch S w (w'.setCell a v) := t.upper (touch_set (S := fun k => k = a.block) w' a v rfl) fun i e => by rw [e]; exact h

set_option maxRecDepth 100000 in
set_option maxHeartbeats 4000000 in
theorem diskCrash_calls (B p : Nat) (g : Option Nat) (D : DiskD) (keep : Int) (w : World) (hd : IsDisk w B p g D) (hk0 : -9223372036854775808 ≤ keep) (hk1 : keep ≤ 9223372036854775807) :
    Calls Try.prog 16 #[.pointer (some ⟨p, 0, none⟩), .int .i64 keep] w fun e w' => e = .returned (.tuple #[]) ∧ IsDisk w' B p g (crashD D keep) ∧ Touch (onDisk p g) w w' := by
  obtain ⟨W0, hW0⟩ : ∃ W0, ((w.alloc (.cells #[.pointer (some ⟨p, 0, none⟩)] 25)).alloc (.cells #[.int .i64 keep] 3)).alloc (.cells #[.int .i64 0] 3) = W0 := ⟨_, rfl⟩
  have HB0 : Below w.heap.size w W0 := by rw [← hW0]; exact (((Below.refl _ w).alloc (Nat.le_refl _) _).alloc (by simp) _).alloc (by simp; omega) _
  have hs0 : W0.heap.size = w.heap.size + 3 := by rw [← hW0]; simp
  have x0 : Boxed W0 w.heap.size 25 (.pointer (some ⟨p, 0, none⟩)) := by rw [← hW0]; exact ((Boxed.new w _ _).alloc _).alloc _
  have x1 : Boxed W0 (w.heap.size + 1) 3 (.int .i64 keep) := by
    have := (Boxed.new (w.alloc (.cells #[.pointer (some ⟨p, 0, none⟩)] 25)) 3 (.int .i64 keep)).alloc (.cells #[.int .i64 0] 3)
    rw [hW0, World.size_alloc] at this
    exact this
  have x2 : Boxed W0 (w.heap.size + 2) 3 (.int .i64 0) := by
    have := Boxed.new ((w.alloc (.cells #[.pointer (some ⟨p, 0, none⟩)] 25)).alloc (.cells #[.int .i64 keep] 3)) 3 (.int .i64 0)
    rw [hW0, World.size_alloc, World.size_alloc] at this
    exact this
  have C := hide (diskLines_calls B p g D W0 (hd.new HB0))
  have hp := hd.lt
  have hl := hd.len
  have q0 := x0.cell
  have Hd := hide hd
  have HW := hide hW0
  clear hW0 hd
  refine (callsIn_wide (n := 5)).1 ?_
  refine callsIn_of_wp_marks Try.func16 rfl trivial ?_ rfl
  simp only [Try.ntmps16, List.size_toArray, List.length_cons, List.length_nil, Nat.reduceAdd, Nat.reduceSub, Array.replicate_succ, Array.replicate_zero, List.push_toArray, List.append_toArray, List.nil_append, List.cons_append]
  refine wpIn_wide.2 ?_
  go_wp2_with fail
  go_step3
  go_wp2_with fail
  rw [HW.out]
  simp only [Nat.add_assoc, Nat.reduceAdd]
  go_step3
  go_wp2_with fail
  refine C.out.mono ?_
  rintro e w1 ⟨b, rfl, hb, hseq, hB1⟩
  go_wp2_with fail
  obtain ⟨vs, gs, hbox, hvs, hrow⟩ := hseq
  have hB01 := HB0.trans (hB1.mono HB0.size)
  have s1 := hB1.size
  have i0 : InCrash w1 B p g D keep 0 w.heap.size := ⟨boxed_of_heap x0 (hB1.block _ (by omega)), boxed_of_heap x1 (hB1.block _ (by omega)), boxed_of_heap x2 (hB1.block _ (by omega)), Hd.out.new hB01⟩
  have hin : ∀ k, onDisk b gs k → k < w1.heap.size ∧ k ≠ w.heap.size + 1 ∧ k ≠ w.heap.size + 2 := fun k hk => by
    rcases hk with rfl | e
    · exact ⟨ltAt hbox, by omega, by omega⟩
    · exact ⟨(hrow.lt k (hvs.trans e)).2, fun e' => row_not hrow i0.b1 (by decide) (by rw [hvs, e, e']), fun e' => row_not hrow i0.b2 (by decide) (by rw [hvs, e, e'])⟩
  have Hin := hide hin
  have u2 := hide (fun s w h => diskSize_calls s w h)
  refine (wpIn_wide (n := 5)).1 ?_
  refine range_lawL (by decide) (gf := 34) (lb := #[.pointer (some ⟨b, 0, none⟩)]) rfl (enters_of Try.func34 (by kernel_rfl) rfl)
    (lines_seq 4 (by decide) b vs gs D.lines (by omega) w1 hbox hvs hrow) keepsSeq_t (keepsSeq_b fun k hk => (hin k hk).1) (fun _ => rfl)
    (fun k W => (∃ left, CrashAt D keep k left ∧ InCrash W B p g D left k w.heap.size) ∧ Touch (onDisk p g) w W)
    (fun c k W => (c = .exit 0 ∧ wholeN D keep = k ∧ ∃ left, InCrash W B p g D left k w.heap.size) ∧ Touch (onDisk p g) w W)
    (OwnFrom.and (Own.from (fun k X Y row hs hg hr => let ⟨l, h1, h2⟩ := hs; ⟨l, h1, h2.own hg hr⟩) _) (ownFrom_touch (by omega)))
    (fun c => OwnFrom.and (Own.from (fun k X Y row hs hg hr => let ⟨h0, h1, l, h2⟩ := hs; ⟨h0, h1, l, h2.own hg hr⟩) _) (ownFrom_touch (by omega)))
    ⟨⟨keep, crashAt_start D keep, i0⟩, touch_new hB01⟩
    (fun x => { tmps := #[.pointer (some ⟨p, 0, none⟩), .int .i64 keep, .pointer (some ⟨w.heap.size, 0, none⟩), .pointer (some ⟨w.heap.size + 1, 0, none⟩), .pointer (some ⟨w.heap.size + 2, 0, none⟩), .int .i64 (x.1 : Int), .string x.2, .pointer (some ⟨p, 0, none⟩), .func (.func 34) #[] #[.pointer (some ⟨b, 0, none⟩)], .int .i64 (x.1 : Int), .string x.2, undef, undef, undef, undef, undef, undef, undef, undef, undef, undef, undef, undef, undef, undef, undef, undef, undef, undef, undef, undef, undef], defers := [] }) ?assign ?body ?done ?stop
  case assign =>
    intro l x W K hK
    clear x0 x1 x2 q0 hbox hrow i0
    dsimp only [encLine]
    gi_wp2
    exact hK
  case body =>
    clear x0 x1 x2 q0 hbox hrow i0 hin
    rintro lp k hk W ⟨⟨left, hat, hin⟩, hT⟩
    rw [placed_get]
    have hk' : k < D.lines.length := by rw [placed_length] at hk; exact hk
    have hlast := Hd.out.ok.lasts
    obtain ⟨aa, cap, -, -, e2, -, -, -, -, -⟩ := hin.d.open
    have c0 := hin.b0.cell
    have c1 := hin.b1.cell
    have c2 := hin.b2.cell
    have f1 := hin.b1.frozen
    have f2 := hin.b2.frozen
    have hl0 : -9223372036854775808 ≤ left := by have := hat.2.1; omega
    have hl1 : left ≤ 9223372036854775807 := by have := hat.1; omega
    have hsz := bytesOf_mem (List.getElem_mem hk')
    by_cases hkn : k < D.lasts
    · have hknI : (k : Int) < (D.lasts : Int) := by omega
      have I := hide hin
      have A := hide hat
      clear hin hat
      gi_wp2
      exact ⟨(KeepsOthers.setCell _ _ _).from _, fun j hj => Below.heap_setCell _ _ _ _ (Hin.out j hj).2.2, ⟨left, crashAt_low A.out hkn, I.out.count rfl⟩, hT.setNew _ _ (by simp)⟩
    · have hknI : ¬ (k : Int) < (D.lasts : Int) := by omega
      have A := hide hat
      have I := hide hin
      by_cases hsl : (D.lines[k].size : Int) + 1 ≤ left
      · have A2 := hide (crashAt_step hat (by omega) hk' hsl)
        obtain ⟨s, hs⟩ : ∃ s, D.lines[k] = s := ⟨_, rfl⟩
        rw [hs] at hsl hsz A2 ⊢
        clear hin hat hs
        have hsl' : ¬ left < (s.size : Int) + 1 := by omega
        gi_wp2_with fail
        refine regionIn_quiet_r (by kernel_rfl) (by kernel_rfl) (by kernel_rfl) ?_
        first | gi_big_quiet_step (fail) | quiet_step_in (fail)
        refine wpQuietIn_step (fun _ _ _ _ => trivial) (fun K hK => ?_)
        go_simp
        apply Exists.intro
        refine ⟨fun _ => CallsIn.quiet_of_same (CallsIn.inRound lp (callsIn_wide.2 (u2.out s _ (by omega)))), hK _ ?_⟩
        clear hK K
        first | gi_big_quiet_step (fail) | quiet_step_in (fail)
        first | gi_big_quiet_step (fail) | quiet_step_in (fail)
        first | gi_big_quiet_step (fail) | quiet_step_in (fail)
        refine wpQuietIn_nil ?_
        intro w' hw'
        obtain ⟨nq, rfl⟩ := hw'
        gi_wp2_with fail
        obtain ⟨W1, hW1⟩ : ∃ W1, W.drewN nq = W1 := ⟨_, rfl⟩
        have hh : W1.heap = W.heap := by rw [← hW1]; rfl
        have T1 : Touch (onDisk p g) w W1 := by rw [← hW1]; exact hT.drewN nq
        have I1 := I.out.same hh
        rw [hW1]
        clear c0 c1 c2 f1 f2 e2 I hW1 hT
        have c1 := I1.b1.cell
        have c2 := I1.b2.cell
        have f1 := I1.b1.frozen
        have f2 := I1.b2.frozen
        have I := hide I1
        have Hh := hide hh
        clear I1 hh
        refine regionIn_tail_r 4 #[true, true, true, true, false] (by kernel_rfl) (by kernel_rfl) (by kernel_rfl) ?_
        simp only [List.take_succ_cons, List.take_zero, List.drop_succ_cons, List.drop_zero]
        first | gi_big_quiet_step (fail) | quiet_step_in (fail)
        first | gi_big_quiet_step (fail) | quiet_step_in (fail)
        refine wpQuietIn_step (fun _ _ _ _ => trivial) (fun K hK => ?_)
        go_simp
        apply Exists.intro
        refine ⟨fun _ => CallsIn.quiet_of_same (CallsIn.inRound lp (callsIn_wide.2 (u2.out s _ (by omega)))), hK _ ?_⟩
        clear hK K
        first | gi_big_quiet_step (fail) | quiet_step_in (fail)
        refine wpQuietIn_nil ?_
        intro w' hw'
        obtain ⟨mq, rfl⟩ := hw'
        gi_wp2_with fail
        have J := (I.out.spend (W' := W1.drewN mq) (left' := left - ((s.size : Int) + 1)) rfl).count rfl
        refine ⟨?_, fun j hj => ?_, ⟨_, A2.out, J⟩, ((T1.drewN mq).setNew _ _ (by simp)).setNew _ _ (by simp)⟩
        · exact (((keepsOthers_same (W := W) (W' := W1.drewN mq) Hh.out).trans (KeepsOthers.setCell _ _ _)).trans (KeepsOthers.setCell _ _ _)).from _
        · exact (Below.heap_setCell _ _ _ _ (Hin.out j hj).2.2).trans ((Below.heap_setCell _ _ _ _ (Hin.out j hj).2.1).trans (by rw [show (W1.drewN mq).heap = W1.heap from rfl, Hh.out]))
      · have A2 := hide (crashAt_stop hat (by omega) hk' hsl)
        obtain ⟨s, hs⟩ : ∃ s, D.lines[k] = s := ⟨_, rfl⟩
        rw [hs] at hsl hsz ⊢
        clear hin hat hs
        have hsl' : left < (s.size : Int) + 1 := by omega
        gi_wp2_with fail
        refine regionIn_quiet_r (by kernel_rfl) (by kernel_rfl) (by kernel_rfl) ?_
        first | gi_big_quiet_step (fail) | quiet_step_in (fail)
        refine wpQuietIn_step (fun _ _ _ _ => trivial) (fun K hK => ?_)
        go_simp
        apply Exists.intro
        refine ⟨fun _ => CallsIn.quiet_of_same (CallsIn.inRound lp (callsIn_wide.2 (u2.out s _ (by omega)))), hK _ ?_⟩
        clear hK K
        first | gi_big_quiet_step (fail) | quiet_step_in (fail)
        first | gi_big_quiet_step (fail) | quiet_step_in (fail)
        first | gi_big_quiet_step (fail) | quiet_step_in (fail)
        refine wpQuietIn_nil ?_
        intro w' hw'
        obtain ⟨nq, rfl⟩ := hw'
        gi_wp2_with fail
        exact ⟨(keepsOthers_same (W := W) (W' := W.drewN nq) rfl).from _, ⟨rfl, A2.out, left, I.out.same rfl⟩, hT.drewN nq⟩
  case done =>
    rintro Dd W hD ⟨⟨left, hat, h⟩, hT⟩ hK
    rw [placed_length] at hat h
    have hwn := crashAt_end hat Hd.out.ok.lasts
    have c0 := h.b0.cell
    have c2 := h.b2.cell
    have Ds := hide (diskShorten_calls B p g D D.lines.length W h.d (Nat.le_refl _))
    clear x0 x1 x2 q0 hbox hrow i0 hin C
    go_wp2_with fail
    refine Ds.out.mono ?_
    rintro e w2 ⟨rfl, hd2, ht2⟩
    have K2 : w2.heap[Dd]? = some (.deferred (some [])) := (ht2.block Dd (ltAt hK) fun h => by
      have := Hd.out.on h
      omega).trans hK
    have T2 := hT.trans ht2
    clear c0 c2 Ds ht2 hT hK
    go_wp2_with fail
    refine ⟨by simp, .inl ⟨_, _, rfl, run_takeDeferred K2, ?_⟩⟩
    have hg := grownBy_putObj' w2 Dd (.deferred none)
    have hr : ∀ r, some Dd = some r → ∃ o : Obj, w2.heap[r]? = some o ∧ o.isCells = false := fun r e => by cases e; exact ⟨_, K2, rfl⟩
    refine ⟨_, results_none rfl _ _ _, rfl, ?_, ownFrom_touch (β := Unit) (show w.heap.size ≤ w.heap.size from Nat.le_refl _) () w2 _ _ T2 hg fun r e => ⟨by cases e; omega, hr r e⟩⟩
    unfold crashD
    rw [hwn]
    exact hd2.own hg hr
  case stop =>
    rintro Dd c k W hD hk ⟨⟨rfl, hwn, left, h⟩, hT⟩ hK
    have hk' : k < D.lines.length := by rw [placed_length] at hk; exact hk
    have c0 := h.b0.cell
    have c2 := h.b2.cell
    have Ds := hide (diskShorten_calls B p g D k W h.d (by omega))
    clear x0 x1 x2 q0 hbox hrow i0 hin C
    refine (wpIn_wide (n := 5)).2 ?_
    go_wp2_with fail
    refine Ds.out.mono ?_
    rintro e w2 ⟨rfl, hd2, ht2⟩
    have K2 : w2.heap[Dd]? = some (.deferred (some [])) := (ht2.block Dd (ltAt hK) fun h => by
      have := Hd.out.on h
      omega).trans hK
    have T2 := hT.trans ht2
    clear c0 c2 Ds ht2 hT hK
    go_wp2_with fail
    refine ⟨by simp, .inl ⟨_, _, rfl, run_takeDeferred K2, ?_⟩⟩
    have hg := grownBy_putObj' w2 Dd (.deferred none)
    have hr : ∀ r, some Dd = some r → ∃ o : Obj, w2.heap[r]? = some o ∧ o.isCells = false := fun r e => by cases e; exact ⟨_, K2, rfl⟩
    refine ⟨_, results_none rfl _ _ _, rfl, ?_, ownFrom_touch (β := Unit) (show w.heap.size ≤ w.heap.size from Nat.le_refl _) () w2 _ _ T2 hg fun r e => ⟨by cases e; omega, hr r e⟩⟩
    unfold crashD
    rw [hwn]
    exact hd2.own hg hr


/-- What Cut answers; what it makes of a disk. -/
def cutE (D : DiskD) (n : Int) : Int := if n < 0 ∨ (D.lines.length : Int) < n then 1 else if D.lasts < D.lines.length then 12 else 0
def cutD (D : DiskD) (n : Int) : DiskD := if cutE D n = 0 then ⟨D.room, D.lines.take n.toNat, n.toNat⟩ else D

set_option maxHeartbeats 2000000 in
theorem diskCut_calls (B p : Nat) (g : Option Nat) (D : DiskD) (n : Int) (w : World) (hd : IsDisk w B p g D) :
    Calls Try.prog 18 #[.pointer (some ⟨p, 0, none⟩), .int .i64 n] w fun e w' => e = .returned (.int .i64 (cutE D n)) ∧ IsDisk w' B p g (cutD D n) ∧ Touch (onDisk p g) w w' := by
  have hl := hd.len
  have hlast := hd.ok.lasts
  have u1 := hide (fun w h => diskLen_calls B p g D w h)
  have u2 := hide (fun w h => diskWaits_calls B p g D w h)
  have Hd := hide hd
  by_cases h0 : n < 0
  · have e0 : cutE D n = 1 := by unfold cutE; rw [if_pos (.inl h0)]
    have e1 : cutD D n = D := by unfold cutD; rw [e0, if_neg (by decide)]
    rw [e0, e1]
    clear e0 e1 hd
    go_enter Try.func18, Try.ntmps18
    go_wp2
    go_ret
    exact ⟨rfl, Hd.out, Touch.refl _ _⟩
  · by_cases h1 : (D.lines.length : Int) < n
    · have e0 : cutE D n = 1 := by unfold cutE; rw [if_pos (.inr h1)]
      have e1 : cutD D n = D := by unfold cutD; rw [e0, if_neg (by decide)]
      rw [e0, e1]
      clear e0 e1 hd
      go_enter Try.func18, Try.ntmps18
      go_wp2_with (go_at_call 24; refine (u1.out _ Hd.out).mono ?_; rintro e w' ⟨rfl, hw'⟩; subst hw')
      go_ret
      exact ⟨rfl, Hd.out, Touch.refl _ _⟩
    · by_cases h2 : D.lasts < D.lines.length
      · have e0 : cutE D n = 12 := by unfold cutE; rw [if_neg (by omega), if_pos h2]
        have e1 : cutD D n = D := by unfold cutD; rw [e0, if_neg (by decide)]
        have h2I : (D.lines.length : Int) - (D.lasts : Int) > 0 := by omega
        rw [e0, e1]
        clear e0 e1 hd
        go_enter Try.func18, Try.ntmps18
        go_wp2_with (first | (go_at_call 24; refine (u1.out _ Hd.out).mono ?_; rintro e w' ⟨rfl, hw'⟩; subst hw') | (go_at_call 25; refine (u2.out _ Hd.out).mono ?_; rintro e w' ⟨rfl, nq, hw'⟩; subst hw'))
        go_ret
        exact ⟨rfl, Hd.out.new (drewsB _ _), touch_new (drewsB _ _)⟩
      · have e0 : cutE D n = 0 := by unfold cutE; rw [if_neg (by omega), if_neg h2]
        have e1 : cutD D n = ⟨D.room, D.lines.take n.toNat, n.toNat⟩ := by unfold cutD; rw [e0, if_pos rfl]
        have h2I : ¬ (D.lines.length : Int) - (D.lasts : Int) > 0 := by omega
        rw [e0, e1]
        obtain ⟨m, rfl⟩ := Int.eq_ofNat_of_zero_le (show 0 ≤ n by omega)
        rw [Int.toNat_natCast]
        have u3 := hide (fun w h => diskShorten_calls B p g D m w h (by omega))
        clear e0 e1 hd
        go_enter Try.func18, Try.ntmps18
        go_wp2_with (first | (go_at_call 24; refine (u1.out _ Hd.out).mono ?_; rintro e w' ⟨rfl, hw'⟩; subst hw') | (go_at_call 25; refine (u2.out _ Hd.out).mono ?_; rintro e w' ⟨rfl, nq, hw'⟩; subst hw') | (go_at_call 32; refine (u3.out _ (Hd.out.new (drewsB _ _))).mono ?_; rintro e w2 ⟨rfl, hd2, ht2⟩))
        go_ret
        exact ⟨rfl, hd2, ht2.of_touch (drewsB _ _)⟩

end Go.Proofs.Ytheaifgoleklpaa
