/- Own work: the parts D6, D7, S4, S5, S6 of the proof, laid together. -/
import Derived.Test.YtncmocmmkbmmjaaGreatDoorPartSegLines9
import Derived.Maps.OwnIn
import Derived.Test.YtncmocmmkbmmjaaGreatDoorPartSegLines8
import Derived.Test.YtncmocmmkbmmjaaGreatDoorPartSegLines5
/- The laws' Lines, SameLines over disks' lines. Own work; no statement. -/
set_option linter.unusedSimpArgs false
set_option linter.unusedVariables false
namespace Go.Proofs.YtncmocmmkbmmjaaGreatDoor
open Go.RowKit Go.Shelf

attribute [local go_sem] Oper.semAt_some

/-- 'x = append(x, y)' by way of x's box. -/
theorem boxApp {W w1 : World} {b n₀ : Nat} {T e : TypeId} {v v1 : Value} {n m : Nat} {xs ys : List Value} {o : Obj} (hbx : Boxed W b T v) (hrow : W.ownsRow n₀ e 1 v n xs) (hb : b < n₀) (hn : n₀ ≤ W.heap.size)
    (hown1 : w1.ownsRow n₀ e 1 v1 m ys) (hgrow : (W.alloc o).grownBy w1 v.ownBlock) :
    Boxed w1 b T v ∧ Boxed (w1.setCell ⟨b, 0, none⟩ v1) b T v1 ∧ (w1.setCell ⟨b, 0, none⟩ v1).ownsRow n₀ e 1 v1 m ys ∧ KeepsOthers W (w1.setCell ⟨b, 0, none⟩ v1) ∧
      (∀ k, k < W.heap.size → k ≠ b → v.ownBlock ≠ some k → (w1.setCell ⟨b, 0, none⟩ v1).heap[k]? = W.heap[k]?) ∧ (∀ B w, B ≤ b → Below B w W → Below B w (w1.setCell ⟨b, 0, none⟩ v1)) := by
  have hne : some b ≠ v.ownBlock := fun e' => by have := (hrow.lt b e'.symm).1; omega
  have hv1 : Boxed w1 b T v := (hbx.alloc o).kept hgrow hne
  refine ⟨hv1, hv1.set v1, ownsRow_of_heap hown1 (fun k hk => Below.heap_setCell _ _ _ _ (fun e' => by have := (hown1.lt k hk).1; have e2 : k = b := e'; omega)), ?_, ?_, ?_⟩
  · refine ((KeepsOthers.alloc W o).trans (KeepsOthers.of_grownBy hgrow fun j o' ej hj => ?_)).trans (KeepsOthers.setCell _ _ _)
    rcases (hrow.alloc o).2 with ⟨rfl, _⟩ | ⟨g, cap, cur, rfl, _, hgb, _⟩
    · simp [Value.ownBlock] at ej
    · obtain rfl : g = j := by simpa [Value.ownBlock] using ej
      rw [hgb] at hj; cases hj; rfl
  · exact fun k hk hkB hkr => app_other hgrow k hk (fun e' => hkr e'.symm) hkB
  · intro B w hB h
    have := hbx.lt
    exact ((h.alloc (by omega) o).grown hgrow (by simp; omega) (fun j ej => by have := (hrow.lt j ej).1; omega)).setCell (p := ⟨b, 0, none⟩) hB v1

/-- Within the loop of Lines. -/
structure InLines (W : World) (s most : Nat) (l : List ByteArray) (k : Nat) (v : Value) : Prop where
  m : Boxed W s 3 (.int .i64 (most : Int))
  r1 : Boxed W (s + 1) 22 (.slice none 0 0)
  r2 : Boxed W (s + 2) 4 (.bool false)
  o : Boxed W (s + 3) 22 v
  row : W.ownsRow (s + 4) 9 1 v k ((l.take k).map Value.string)

theorem InLines.own {X Y : World} {row : Option Nat} {s most : Nat} {l : List ByteArray} {k : Nat} {v : Value} (h : InLines X s most l k v) (hg : X.grownBy Y row) (hrow : ∀ r, row = some r → ∃ o : Obj, X.heap[r]? = some o ∧ o.isCells = false) : InLines Y s most l k v :=
  ⟨boxed_own' hg hrow h.m, boxed_own' hg hrow h.r1, boxed_own' hg hrow h.r2, boxed_own' hg hrow h.o, ownsRow_own' hg hrow h.row⟩

set_option maxRecDepth 100000 in
set_option maxHeartbeats 4000000 in
theorem lawLines3_calls (b most : Nat) (l : List ByteArray) (w : World) (hs : IsSeq w b l) (hl : l.length ≤ most) (hm : most ≤ 1048576) :
    Calls Tryz.prog 15 #[.func (.func 49) #[] #[.pointer (some ⟨b, 0, none⟩)], .int .i64 (most : Int)] w fun e w' => ∃ v, e = .returned (.tuple #[v, .bool true]) ∧ w'.ownsRow w.heap.size 9 1 v l.length (l.map Value.string) ∧ Below w.heap.size w w' := by
  have heq : ∀ (fn : Fn) (first cap : Array Value) (w : World), (binOp .eql 42 (.func fn first cap) .nilFunc).run Tryz.prog w = .ok (.bool false) w := fun _ _ _ _ => by kernel_rfl
  obtain ⟨i0, hi, hz0, hz1, hz2⟩ := info_parts Tryz.info9
  obtain ⟨W4, hW4⟩ : ∃ W4, (((w.alloc (.cells #[.int .i64 (most : Int)] 3)).alloc (.cells #[.slice none 0 0] 22)).alloc (.cells #[.bool false] 4)).alloc (.cells #[.slice none 0 0] 22) = W4 := ⟨_, rfl⟩
  have HB4 : Below w.heap.size w W4 := by rw [← hW4]; exact ((((Below.refl _ w).alloc (Nat.le_refl _) _).alloc (by simp) _).alloc (by simp; omega) _).alloc (by simp; omega) _
  have hs4 : W4.heap.size = w.heap.size + 4 := by rw [← hW4]; simp
  have i4 : InLines W4 w.heap.size most l 0 (.slice none 0 0) := by
    refine ⟨?_, ?_, ?_, ?_, World.ownsRow_nil _ _ _ _⟩
    · rw [← hW4]; exact (((Boxed.new w _ _).alloc _).alloc _).alloc _
    · have := ((Boxed.new (w.alloc (.cells #[.int .i64 (most : Int)] 3)) 22 (.slice none 0 0)).alloc (.cells #[.bool false] 4)).alloc (.cells #[.slice none 0 0] 22)
      rw [hW4, World.size_alloc] at this
      exact this
    · have := (Boxed.new ((w.alloc (.cells #[.int .i64 (most : Int)] 3)).alloc (.cells #[.slice none 0 0] 22)) 4 (.bool false)).alloc (.cells #[.slice none 0 0] 22)
      rw [hW4, World.size_alloc, World.size_alloc] at this
      exact this
    · have := Boxed.new (((w.alloc (.cells #[.int .i64 (most : Int)] 3)).alloc (.cells #[.slice none 0 0] 22)).alloc (.cells #[.bool false] 4)) 22 (.slice none 0 0)
      rw [hW4, World.size_alloc, World.size_alloc, World.size_alloc] at this
      exact this
  obtain ⟨vs, gs, hbox, hvs, hrow⟩ := hs.below HB4
  have hin : ∀ k, onDisk b gs k → k < W4.heap.size := fun k hk => by
    rcases hk with rfl | e
    · exact ltAt hbox
    · exact (hrow.lt k (hvs.trans e)).2
  have hin' : ∀ k, onDisk b gs k → k < w.heap.size := by
    obtain ⟨vs', gs', hbox', hvs', hrow'⟩ := hs
    have e1 : vs = vs' := by
      have h1 := (HB4.block b (ltAt hbox')).trans hbox'
      rw [h1] at hbox
      simp at hbox
      exact hbox.symm
    subst e1
    intro k hk
    rcases hk with rfl | e
    · exact ltAt hbox'
    · exact (hrow'.lt k (hvs.trans e)).2
  have Hin := hide hin'
  have HW := hide hW4
  clear hW4 hs
  refine (callsIn_wide (n := 5)).1 ?_
  refine callsIn_of_wp_marks Tryz.func15 rfl trivial ?_ rfl
  simp only [Tryz.ntmps15, List.size_toArray, List.length_cons, List.length_nil, Nat.reduceAdd, Nat.reduceSub, Array.replicate_succ, Array.replicate_zero, List.push_toArray, List.append_toArray, List.nil_append, List.cons_append]
  gi_wp2_with fail
  rw [HW.out]
  simp only [Nat.add_assoc, Nat.reduceAdd]
  refine range_lawL (by decide) (gf := 49) (lb := #[.pointer (some ⟨b, 0, none⟩)]) rfl (enters_of Tryz.func49 (by kernel_rfl) rfl)
    (lines_seq 4 (by decide) b vs gs l (by omega) W4 hbox hvs hrow) keepsSeq_t (keepsSeq_b fun k hk => hin k hk) (fun _ => rfl)
    (fun k W => (∃ v, InLines W w.heap.size most l k v) ∧ Below w.heap.size w W)
    (fun _ _ _ => False)
    (OwnFrom.and (Own.from (fun k X Y row hs hg hr => let ⟨v, h⟩ := hs; ⟨v, h.own hg hr⟩) _) (ownFrom_below (Nat.le_refl _) (by omega)))
    (fun _ _ _ _ _ hs _ _ => hs)
    ⟨⟨_, i4⟩, HB4⟩
    (fun x => { tmps := #[.func (.func 49) #[] #[.pointer (some ⟨b, 0, none⟩)], .int .i64 (most : Int), undef, .pointer (some ⟨w.heap.size, 0, none⟩), .pointer (some ⟨w.heap.size + 1, 0, none⟩), .pointer (some ⟨w.heap.size + 2, 0, none⟩), .pointer (some ⟨w.heap.size + 3, 0, none⟩), .int .i64 (x.1 : Int), .string x.2, .func (.func 49) #[] #[.pointer (some ⟨b, 0, none⟩)], .bool false, .func (.func 49) #[] #[.pointer (some ⟨b, 0, none⟩)], .int .i64 (x.1 : Int), .string x.2, undef, undef, undef, undef, undef, undef, undef, undef, undef, undef, undef, undef, undef, undef, undef, undef], defers := [] }) ?assign ?body ?done ?stop
  case assign =>
    intro l x W K hK
    clear i4 hbox hrow
    dsimp only [encLine]
    gi_wp2
    exact hK
  case body =>
    clear i4 hbox hrow hin
    rintro lp k hk W ⟨⟨v, h⟩, hB⟩
    rw [placed_get]
    have hk' : k < l.length := by rw [placed_length] at hk; exact hk
    obtain ⟨s, hs⟩ : ∃ s, l[k] = s := ⟨_, rfl⟩
    rw [hs]
    obtain ⟨a, cap, rfl⟩ := ownsRow_slice h.row
    have c0 := h.m.cell
    have c3 := h.o.cell
    have hkm : (k : Int) < (most : Int) := by omega
    have hW4 := h.o.lt
    have H := hide h
    have HB := hide hB
    have Hs := hide hs
    clear h hB hs
    gi_wp2_with (gi_at_builtin; refine wpListIn_append_own_at _ rfl (.tmp 25) _ 22 rfl (w.heap.size + 4) 9 i0 _ 1 16 Tryz.underlying22 hi hz0 hz1 hz2 rfl (by decide) _ _ _ rfl (World.ownsRow.alloc H.out.row _) ⟨_, 0, none⟩ 1 1 [.string s] rfl rfl (cell_one_at (by simp)) (by intro u hu; simp at hu; subst hu; rfl) (by unfold maxLen; omega) (by omega) (by simp; omega) ?_; intro v1 w1 hown1 hgrow1 _ hat1; obtain ⟨bx1, bx2, row2, k1, o1, l1⟩ := boxApp H.out.o H.out.row (by omega) (by omega) hown1 hgrow1; have d1 := bx1.cell; have f1 := bx1.frozen; obtain ⟨ga, cap1, rfl⟩ := ownsRow_slice hown1; have K1 := hide k1; have O1 := hide o1; have L1 := hide l1; have R2 := hide row2; have B2 := hide bx2; clear hgrow1 hat1 hown1 k1 o1 l1 row2 bx1 bx2)
    have ho : ∀ j, j < w.heap.size + 3 → j < W.heap.size → (w1.setCell ⟨w.heap.size + 3, 0, none⟩ (.slice ga (k + 1) cap1)).heap[j]? = W.heap[j]? := fun j hj hj2 => O1.out j hj2 (by omega) (fun e => by have := (H.out.row.lt j e).1; omega)
    refine ⟨K1.out.from _, fun j hj => ho j (by have := Hin.out j hj; omega) (by have := Hin.out j hj; omega), ⟨_, ⟨boxed_of_heap H.out.m (ho _ (by omega) (by omega)), boxed_of_heap H.out.r1 (ho _ (by omega) (by omega)), boxed_of_heap H.out.r2 (ho _ (by omega) (by omega)), B2.out, ?_⟩⟩, L1.out _ _ (by omega) HB.out⟩
    have e1 : (l.take (k + 1)).map Value.string = (l.take k).map Value.string ++ [.string s] := by
      rw [List.take_add_one, List.getElem?_eq_getElem hk', Hs.out]
      simp
    rw [e1]
    exact R2.out
  case done =>
    clear i4 hbox hrow hin
    rintro Dd W hD ⟨⟨v, h⟩, hB⟩ hK
    rw [placed_length] at h
    have hrow := h.row
    rw [List.take_of_length_le (Nat.le_refl _)] at hrow
    obtain ⟨a, cap, rfl⟩ := ownsRow_slice hrow
    have c1 := h.r1.cell
    have c2 := h.r2.cell
    have c3 := h.o.cell
    have f1 := h.r1.frozen
    have f2 := h.r2.frozen
    have H := hide h
    have HB := hide hB
    have R := hide hrow
    clear h hB hrow
    gi_wp2_with fail
    obtain ⟨W3, hW3⟩ : ∃ W3, (W.setCell ⟨w.heap.size + 1, 0, none⟩ (.slice a l.length cap)).setCell ⟨w.heap.size + 2, 0, none⟩ (.bool true) = W3 := ⟨_, rfl⟩
    have hoth : ∀ k, k ≠ w.heap.size + 1 → k ≠ w.heap.size + 2 → W3.heap[k]? = W.heap[k]? := fun k h1 h2 => by rw [← hW3]; exact (Below.heap_setCell _ _ _ _ h2).trans (Below.heap_setCell _ _ _ _ h1)
    have hK3 : W3.heap[Dd]? = some (.deferred (some [])) := (hoth Dd (by omega) (by omega)).trans hK
    have R1 : Boxed W3 (w.heap.size + 1) 22 (.slice a l.length cap) := by rw [← hW3]; exact boxed_of_heap (H.out.r1.set _) (Below.heap_setCell _ _ _ _ (show w.heap.size + 1 ≠ w.heap.size + 2 by omega))
    have R2 : Boxed W3 (w.heap.size + 2) 4 (.bool true) := by rw [← hW3]; exact (boxed_of_heap H.out.r2 (Below.heap_setCell _ _ _ _ (show w.heap.size + 2 ≠ w.heap.size + 1 by omega))).set _
    have R3 : W3.ownsRow w.heap.size 9 1 (.slice a l.length cap) l.length (l.map Value.string) := ownsRow_low (ownsRow_of_heap R.out fun k e => by have := (R.out.lt k e).1; exact hoth k (by omega) (by omega)) (by omega)
    have B3 : Below w.heap.size w W3 := by rw [← hW3]; exact (HB.out.setCell (p := ⟨w.heap.size + 1, 0, none⟩) (by simp) _).setCell (p := ⟨w.heap.size + 2, 0, none⟩) (by simp) _
    rw [hW3]
    clear hoth hW3 c1 c2 c3 f1 f2 hK heq
    have hg := grownBy_putObj' W3 Dd (.deferred none)
    have hr : ∀ r, some Dd = some r → ∃ o : Obj, W3.heap[r]? = some o ∧ o.isCells = false := fun r e => by cases e; exact ⟨_, hK3, rfl⟩
    have Q1 := (boxed_own' hg hr R1).cell
    have Q2 := (boxed_own' hg hr R2).cell
    refine ⟨by simp, .inl ⟨_, _, rfl, run_takeDeferred hK3, ?_⟩⟩
    refine ⟨.tuple #[.slice a l.length cap, .bool true], by simp [results, Tryz.f15, go_sem, Q1, Q2], _, rfl, ownsRow_own' hg hr R3, ?_⟩
    exact B3.trans (belowK_b (w := w) (Nat.le_refl _) W3 Dd _ _ (by omega) hK3 rfl rfl)
  case stop =>
    rintro D c k W _ _ h _
    exact h.elim

/-- In the world w the slice v reads as the texts l. -/
def IsStrs (w : World) (v : Value) (l : List ByteArray) : Prop :=
  ∃ a cap, v = .slice a l.length cap ∧ l.length ≤ cap ∧ ∀ t (_ : t < l.length), ∃ b o, a = some ⟨b, o, none⟩ ∧ w.cell? ⟨b, o + t, none⟩ = some (.string l[t])

theorem IsStrs.of_row {w : World} {B : Nat} {e : TypeId} {v : Value} {l : List ByteArray} (h : w.ownsRow B e 1 v l.length (l.map Value.string)) : IsStrs w v l := by
  obtain ⟨a, cap, rfl⟩ := ownsRow_slice h
  refine ⟨a, cap, rfl, ?_, fun t ht => let ⟨b, e, hc⟩ := strs_cell h t ht; ⟨b, 0, e, by rw [Nat.zero_add]; exact hc⟩⟩
  rcases h.2 with ⟨h0, h1⟩ | ⟨g', cap', cur, h0, _, _, h1, _⟩ <;> (simp only [Value.slice.injEq] at h0; omega)
theorem IsStrs.below {w w' : World} {v : Value} {l : List ByteArray} (h : IsStrs w v l) (hb : Below w.heap.size w w') : IsStrs w' v l := by
  obtain ⟨a, cap, rfl, hcap, h⟩ := h
  exact ⟨a, cap, rfl, hcap, fun t ht => let ⟨b, o, e, hc⟩ := h t ht; ⟨b, o, e, (hb.cell (p := ⟨b, o + t, none⟩) (World.block_lt_of_cell? w _ hc)).trans hc⟩⟩

theorem strNe {a b : ByteArray} (h : ¬ a = b) : (a.toList == b.toList) = false := by
  rw [beq_eq_false_iff_ne, Lib.toList_data, Lib.toList_data]
  intro e
  exact h (ByteArray.ext (Array.toList_inj.1 e))

theorem take_grow {l m : List ByteArray} {k : Nat} (h : l.take k = m.take k) (hl : k < l.length) (hm : k < m.length) (e : l[k] = m[k]) : l.take (k + 1) = m.take (k + 1) := by
  rw [List.take_add_one, List.take_add_one, h, List.getElem?_eq_getElem hl, List.getElem?_eq_getElem hm, e]

set_option maxHeartbeats 2000000 in
theorem sameLines3_calls (v v' : Value) (l m : List ByteArray) (w : World) (hv : IsStrs w v l) (hv' : IsStrs w v' m) (hl : l.length ≤ 1048576) (hm : m.length ≤ 1048576) :
    Calls Tryz.prog 17 #[v, v'] w fun e w' => e = .returned (.bool (decide (l = m))) ∧ ∃ n, w' = w.drewN n := by
  obtain ⟨a, cap, rfl, -, ha⟩ := hv
  obtain ⟨a', cap', rfl, -, ha'⟩ := hv'
  have Ha := hide ha
  have Ha' := hide ha'
  clear ha ha'
  by_cases hlen : l.length = m.length
  · have hb : ((l.length : Int) != (m.length : Int)) = false := by simp [hlen]
    have hl1 : l.length ≤ m.length := by omega
    have hl2 : m.length ≤ l.length := by omega
    clear hlen
    go_enter Tryz.func17, Tryz.ntmps17
    go_wp2
    go_loopw [5] (fun i wr => ∃ (k n : Nat), i = .int .i64 (k : Int) ∧ k ≤ l.length ∧ l.take k = m.take k ∧ wr = w.drewN n) (fun i _ => l.length - (intOf i).toNat)
    case atStart => exact ⟨0, 0, rfl, Nat.zero_le _, by simp, rfl⟩
    case round =>
      obtain ⟨k, n, rfl, hk, ht, rfl⟩ := hrel
      have Ht := hide ht
      clear ht
      by_cases hlt : k < l.length
      · have hltI : (k : Int) < (l.length : Int) := by omega
        have hltI' : (k : Int) < (m.length : Int) := by omega
        obtain ⟨b, o, rfl, c1⟩ := Ha.out k hlt
        obtain ⟨b', o', rfl, c2⟩ := Ha'.out k (by omega)
        have d1 : (w.drewN n).cell? ⟨b, o + k, none⟩ = _ := c1
        have d2 : (w.drewN n).cell? ⟨b', o' + k, none⟩ = _ := c2
        have hm' : k < m.length := by omega
        have hgrow : Hid (l[k] = m[k] → l.take (k + 1) = m.take (k + 1)) := fun e => take_grow Ht.out hlt hm' e
        have hbad : Hid (¬ l[k] = m[k] → ¬ l = m) := fun h e => h (by subst e; rfl)
        generalize l[k] = x at *
        generalize m[k] = y at *
        by_cases hxy : x = y
        · subst hxy
          go_wp2
          go_quiet (fail)
          go_wp2
          exact ⟨⟨k + 1, n + nq, by go_num, by omega, hgrow.out (by first | rfl | trivial), rfl⟩, by simp [intOf]; omega⟩
        · have hne := strNe hxy
          go_wp2
          go_quiet (fail)
          go_wp2
          go_ret
          exact ⟨congrArg (fun b => Ending.returned (.bool b)) (decide_eq_false (hbad.out hxy)).symm, n + nq, World.drewN_drewN _ _ _⟩
      · have e : k = l.length := by omega
        subst e
        go_wp2
        go_ret
        have := Ht.out
        rw [List.take_of_length_le (Nat.le_refl _), List.take_of_length_le (by omega)] at this
        exact ⟨congrArg (fun b => Ending.returned (.bool b)) (decide_eq_true this).symm, n, rfl⟩
  · have hb : ((l.length : Int) != (m.length : Int)) = true := by simp; omega
    have hne : ¬ l = m := fun e => hlen (by rw [e])
    rw [decide_eq_false hne]
    clear hne
    go_enter Tryz.func17, Tryz.ntmps17
    go_wp2
    go_ret
    exact ⟨rfl, 0, rfl⟩

end Go.Proofs.YtncmocmmkbmmjaaGreatDoor

/- The laws' known, over disks. Own work; no statement. -/
set_option linter.unusedSimpArgs false
set_option linter.unusedVariables false
namespace Go.Proofs.YtncmocmmkbmmjaaGreatDoor
open Go.RowKit Go.Shelf

theorem IsDisk.drews {w : World} {B p : Nat} {g : Option Nat} {D : DiskD} (h : IsDisk w B p g D) (n : Nat) : IsDisk (w.drewN n) B p g D := h.keep fun _ _ => rfl
/-- A disk's own changes lie from B on. -/
theorem IsDisk.below {w w' : World} {B p : Nat} {g : Option Nat} {D : DiskD} (h : IsDisk w B p g D) (hB : B ≤ w.heap.size) (t : Touch (onDisk p g) w w') : Below B w w' := t.below hB fun _ _ e => (h.on e).1

/-- Write, what it answers and makes named. -/
theorem diskWrite_to (B p : Nat) (g : Option Nat) (D : DiskD) (s : ByteArray) (c : Int) (D' : DiskD) (he : writeE D s = c) (hD : writeD D s = D') (w : World) (hd : IsDisk w B p g D) (hB : B ≤ w.heap.size) (hs : s.size ≤ 1099511627776) :
    Calls Tryz.prog 10 #[.pointer (some ⟨p, 0, none⟩), .string s] w fun e w' => e = .returned (.int .i64 c) ∧ ∃ g', IsDisk w' B p g' D' ∧ Touch (onDisk p g) w w' ∧ (∀ k, g' = some k → g = some k ∨ w.heap.size ≤ k) := by
  subst he
  subst hD
  exact diskWrite_calls B p g D s w hd hB hs
theorem diskCrash_to (B p : Nat) (g : Option Nat) (D : DiskD) (keep : Int) (D' : DiskD) (hD : crashD D keep = D') (w : World) (hd : IsDisk w B p g D) (hk0 : -9223372036854775808 ≤ keep) (hk1 : keep ≤ 9223372036854775807) :
    Calls Tryz.prog 26 #[.pointer (some ⟨p, 0, none⟩), .int .i64 keep] w fun e w' => e = .returned (.tuple #[]) ∧ IsDisk w' B p g D' ∧ Touch (onDisk p g) w w' := by
  subst hD
  exact diskCrash_calls B p g D keep w hd hk0 hk1
theorem diskCut_to (B p : Nat) (g : Option Nat) (D : DiskD) (n c : Int) (D' : DiskD) (he : cutE D n = c) (hD : cutD D n = D') (w : World) (hd : IsDisk w B p g D) :
    Calls Tryz.prog 42 #[.pointer (some ⟨p, 0, none⟩), .int .i64 n] w fun e w' => e = .returned (.int .i64 c) ∧ IsDisk w' B p g D' ∧ Touch (onDisk p g) w w' := by
  subst he
  subst hD
  exact diskCut_calls B p g D n w hd

theorem diskLen_to (B p : Nat) (g : Option Nat) (D : DiskD) (c : Int) (hc : (D.lines.length : Int) = c) (w : World) (hd : IsDisk w B p g D) :
    Calls Tryz.prog 41 #[.pointer (some ⟨p, 0, none⟩)] w fun e w' => e = .returned (.int .i64 c) ∧ w' = w := by
  subst hc
  exact diskLen_calls B p g D w hd
theorem diskWaits_to (B p : Nat) (g : Option Nat) (D : DiskD) (c : Int) (hc : (D.lines.length : Int) - (D.lasts : Int) = c) (w : World) (hd : IsDisk w B p g D) :
    Calls Tryz.prog 18 #[.pointer (some ⟨p, 0, none⟩)] w fun e w' => e = .returned (.int .i64 c) ∧ ∃ n, w' = w.drewN n := by
  subst hc
  exact diskWaits_calls B p g D w hd
theorem diskSync_to (B p : Nat) (g : Option Nat) (D : DiskD) (m : Nat) (hm : D.lines.length = m) (w : World) (hd : IsDisk w B p g D) :
    Calls Tryz.prog 31 #[.pointer (some ⟨p, 0, none⟩)] w fun e w' => e = .returned (.tuple #[]) ∧ IsDisk w' B p g ⟨D.room, D.lines, m⟩ ∧ Touch (onDisk p g) w w' := by
  subst hm
  exact diskSync_calls B p g D w hd

/-- Two disks that lie apart. -/
def Apart (p : Nat) (g : Option Nat) (p' : Nat) (g' : Option Nat) : Prop := ∀ k, onDisk p g k → ¬ onDisk p' g' k
theorem Apart.symm {p p' : Nat} {g g' : Option Nat} (h : Apart p g p' g') : Apart p' g' p g := fun k h1 h2 => h k h2 h1
/-- A new one lies apart from an elder one. -/
theorem apart_new {w w' : World} {B B' p p' : Nat} {g g' : Option Nat} {D D' : DiskD} (h : IsDisk w B p g D) (h' : IsDisk w' B' p' g' D') (hB : w.heap.size ≤ B') : Apart p g p' g' := fun k h1 h2 => by
  have := (h.on h1).2
  have := (h'.on h2).1
  omega
/-- One that goes on apart from another one stays so. -/
theorem Apart.goes {w : World} {B p p' : Nat} {g g1 g' : Option Nat} {D : DiskD} (h : Apart p g p' g') (hd : IsDisk w B p' g' D) (hg : ∀ k, g1 = some k → g = some k ∨ w.heap.size ≤ k) : Apart p g1 p' g' := fun k h1 h2 => by
  rcases h1 with rfl | e
  · exact h k (.inl rfl) h2
  · rcases hg k e with e' | e'
    · exact h k (.inr e') h2
    · have := (hd.on h2).2
      omega

end Go.Proofs.YtncmocmmkbmmjaaGreatDoor

/- seg's small functions: isEpoch, owned; structs of seven cells. Own work; no statement. -/
set_option linter.unusedSimpArgs false
set_option linter.unusedVariables false
namespace Go.Proofs.YtncmocmmkbmmjaaGreatDoor
open Go.RowKit Go.Shelf Go.Sort

theorem cells5 {W : World} {b : Nat} {x0 x1 x2 x3 x4 : Value} {t : TypeId} (h : W.heap[b]? = some (.cells #[x0, x1, x2, x3, x4] t (0, 0))) :
    W.cell? ⟨b, 0, none⟩ = some x0 ∧ W.cell? ⟨b, 1, none⟩ = some x1 ∧ W.cell? ⟨b, 2, none⟩ = some x2 ∧ W.cell? ⟨b, 3, none⟩ = some x3 ∧ W.cell? ⟨b, 4, none⟩ = some x4 ∧
    W.frozen? ⟨b, 0, none⟩ = false ∧ W.frozen? ⟨b, 1, none⟩ = false ∧ W.frozen? ⟨b, 2, none⟩ = false ∧ W.frozen? ⟨b, 3, none⟩ = false ∧ W.frozen? ⟨b, 4, none⟩ = false :=
  ⟨by simpa using cellsAt h 0, by simpa using cellsAt h 1, by simpa using cellsAt h 2, by simpa using cellsAt h 3, by simpa using cellsAt h 4, frozenAt h _, frozenAt h _, frozenAt h _, frozenAt h _, frozenAt h _⟩
theorem cells7 {W : World} {b : Nat} {x0 x1 x2 x3 x4 x5 x6 : Value} {t : TypeId} (h : W.heap[b]? = some (.cells #[x0, x1, x2, x3, x4, x5, x6] t (0, 0))) :
    W.cell? ⟨b, 0, none⟩ = some x0 ∧ W.cell? ⟨b, 1, none⟩ = some x1 ∧ W.cell? ⟨b, 2, none⟩ = some x2 ∧ W.cell? ⟨b, 3, none⟩ = some x3 ∧ W.cell? ⟨b, 4, none⟩ = some x4 ∧ W.cell? ⟨b, 5, none⟩ = some x5 ∧ W.cell? ⟨b, 6, none⟩ = some x6 ∧
    W.frozen? ⟨b, 0, none⟩ = false ∧ W.frozen? ⟨b, 1, none⟩ = false ∧ W.frozen? ⟨b, 2, none⟩ = false ∧ W.frozen? ⟨b, 3, none⟩ = false ∧ W.frozen? ⟨b, 4, none⟩ = false ∧ W.frozen? ⟨b, 5, none⟩ = false ∧ W.frozen? ⟨b, 6, none⟩ = false :=
  ⟨by simpa using cellsAt h 0, by simpa using cellsAt h 1, by simpa using cellsAt h 2, by simpa using cellsAt h 3, by simpa using cellsAt h 4, by simpa using cellsAt h 5, by simpa using cellsAt h 6, frozenAt h _, frozenAt h _, frozenAt h _, frozenAt h _, frozenAt h _, frozenAt h _, frozenAt h _⟩

/-- A struct of seven cells, stored whole. -/
def put7 (W : World) (b : Nat) (v0 v1 v2 v3 v4 v5 v6 : Value) : World := ((put5 W b v0 v1 v2 v3 v4).setCell ⟨b, 5, none⟩ v5).setCell ⟨b, 6, none⟩ v6
theorem put7_heap {W : World} {b : Nat} {x0 x1 x2 x3 x4 x5 x6 : Value} {t : TypeId} {f : Nat × Nat} (h : W.heap[b]? = some (.cells #[x0, x1, x2, x3, x4, x5, x6] t f)) (v0 v1 v2 v3 v4 v5 v6 : Value) :
    (put7 W b v0 v1 v2 v3 v4 v5 v6).heap[b]? = some (.cells #[v0, v1, v2, v3, v4, v5, v6] t f) := by
  have := set1 (j := 6) (set1 (j := 5) (set1 (j := 4) (set1 (j := 3) (set1 (j := 2) (set1 (j := 1) (set1 (j := 0) h v0) v1) v2) v3) v4) v5) v6
  simpa [put7, put5] using this
theorem put7_below {B b : Nat} {w W : World} (h : Below B w W) (hb : B ≤ b) (v0 v1 v2 v3 v4 v5 v6 : Value) : Below B w (put7 W b v0 v1 v2 v3 v4 v5 v6) :=
  ((put5_below h hb v0 v1 v2 v3 v4).setCell (p := ⟨b, 5, none⟩) hb v5).setCell (p := ⟨b, 6, none⟩) hb v6
theorem put7_other {b : Nat} {W : World} (k : Nat) (h : k ≠ b) (v0 v1 v2 v3 v4 v5 v6 : Value) : (put7 W b v0 v1 v2 v3 v4 v5 v6).heap[k]? = W.heap[k]? := by
  unfold put7
  rw [Below.heap_setCell _ ⟨b, 6, none⟩ _ k h, Below.heap_setCell _ ⟨b, 5, none⟩ _ k h, put5_other k h]

set_option maxHeartbeats 400000 in
theorem isEpoch_calls (n : Int) (w : World) : Calls Tryz.prog 50 #[.int .i64 n] w fun e w' => e = .returned (.bool (decide (1 ≤ n ∧ n ≤ 2147483647))) ∧ w' = w := by
  by_cases h0 : 1 ≤ n
  · by_cases h1 : n ≤ 2147483647
    · rw [decide_eq_true ⟨h0, h1⟩]
      go_enter Tryz.func50, Tryz.ntmps50
      go_wp2
      go_ret
      exact ⟨by simp [h1], rfl⟩
    · rw [decide_eq_false (fun h => h1 h.2)]
      go_enter Tryz.func50, Tryz.ntmps50
      go_wp2
      go_ret
      exact ⟨by simp [h1], rfl⟩
  · rw [decide_eq_false (fun h => h0 h.1)]
    go_enter Tryz.func50, Tryz.ntmps50
    go_wp2
    go_ret
    exact ⟨by simp [h0], rfl⟩

set_option maxHeartbeats 4000000 in
set_option maxRecDepth 100000 in
theorem owned_calls (v : Value) (r : RecD) (w : World) (hv : IsRec w v r) (hl : r.dep.length ≤ 17592186044416) (hk : r.key.size ≤ 1099511627776) (hvl : r.val.size ≤ 1099511627776) :
    Calls Tryz.prog 54 #[v] w fun e w' => ∃ v', e = .returned v' ∧ OwnRec w.heap.size w' v' r ∧ Below w.heap.size w w' := by
  obtain ⟨site, seq, dep, key, val⟩ := r
  obtain ⟨a, cap, rfl, hn⟩ := hv
  dsimp only at *
  obtain ⟨W0, hW0⟩ : ∃ W0, (w.alloc (.cells #[.int .i64 site, .int .i64 seq, .slice a dep.length cap, .string key, .string val] 57)).alloc (.cells #[.int .i64 0, .int .i64 0, .slice none 0 0, .string ⟨#[]⟩, .string ⟨#[]⟩] 57) = W0 := ⟨_, rfl⟩
  have hB : Below w.heap.size w W0 := by rw [← hW0]; exact (box_below w _).alloc (by simp) _
  have hsz : w.heap.size + 2 ≤ W0.heap.size := by rw [← hW0]; simp
  have h0 : W0.heap[w.heap.size]? = some (.cells #[.int .i64 site, .int .i64 seq, .slice a dep.length cap, .string key, .string val] 57 (0, 0)) := by
    rw [← hW0]; exact (Below.heap_alloc _ _ _ (by simp)).trans (World.alloc_heap_new w _)
  have h1 : W0.heap[w.heap.size + 1]? = some (.cells #[.int .i64 0, .int .i64 0, .slice none 0 0, .string ⟨#[]⟩, .string ⟨#[]⟩] 57 (0, 0)) := by
    have := World.alloc_heap_new (w.alloc (.cells #[.int .i64 site, .int .i64 seq, .slice a dep.length cap, .string key, .string val] 57)) (.cells #[.int .i64 0, .int .i64 0, .slice none 0 0, .string ⟨#[]⟩, .string ⟨#[]⟩] 57)
    rw [hW0, World.size_alloc] at this
    exact this
  have q4 := hide (fun w => clone_calls key w hk)
  have q5 := hide (fun w => clone_calls val w hvl)
  have X := hide h0
  have Z := hide h1
  have HN := hide hn
  have HW := hide hW0
  clear hW0 hn h0 h1
  go_enter Tryz.func54, Tryz.ntmps54
  go_wp2_with fail
  rw [HW.out]
  clear HW
  replace X := hide (show W0.drew.heap[w.heap.size]? = _ from X.out)
  replace Z := hide (show W0.drew.heap[w.heap.size + 1]? = _ from Z.out)
  replace hB := hB.drew
  have c3 := (cells5 X.out).2.2.2.1
  have c4 := (cells5 X.out).2.2.2.2.1
  have f3 := frozenAt X.out 3
  have f4 := frozenAt X.out 4
  go_region_with (first | (go_at_call_of 35 (Value.string key); refine (q4.out _).mono ?_; rintro e w' ⟨rfl, hb⟩; replace X := hide (keepB X.out hb); replace Z := hide (keepB Z.out hb); replace hB := hB.trans (hb.mono hB.size); have c3 := (cells5 X.out).2.2.2.1; have c4 := (cells5 X.out).2.2.2.2.1; have f3 := frozenAt X.out 3; have f4 := frozenAt X.out 4) | (go_at_call_of 35 (Value.string val); refine (q5.out _).mono ?_; rintro e w' ⟨rfl, hb⟩; replace X := hide (keepB X.out hb); replace Z := hide (keepB Z.out hb); replace hB := hB.trans (hb.mono hB.size); have c3 := (cells5 X.out).2.2.2.1; have c4 := (cells5 X.out).2.2.2.2.1; have f3 := frozenAt X.out 3; have f4 := frozenAt X.out 4))
  all_goals
    have X1 : ((w'.setCell ⟨w.heap.size, 3, none⟩ (.string key)).setCell ⟨w.heap.size, 4, none⟩ (.string val)).heap[w.heap.size]? = some (.cells #[.int .i64 site, .int .i64 seq, .slice a dep.length cap, .string key, .string val] 57 (0, 0)) := by
      simpa using set1 (j := 4) (set1 (j := 3) X.out (.string key)) (.string val)
    have Z1 := (Below.heap_setCell (w'.setCell ⟨w.heap.size, 3, none⟩ (.string key)) ⟨w.heap.size, 4, none⟩ (.string val) (w.heap.size + 1) (by simp)).trans ((Below.heap_setCell w' ⟨w.heap.size, 3, none⟩ (.string key) (w.heap.size + 1) (by simp)).trans Z.out)
    have B1 := (hB.setCell (p := ⟨w.heap.size, 3, none⟩) (Nat.le_refl _) (.string key)).setCell (p := ⟨w.heap.size, 4, none⟩) (Nat.le_refl _) (.string val)
    obtain ⟨W1, hW1⟩ : ∃ W1, (w'.setCell ⟨w.heap.size, 3, none⟩ (.string key)).setCell ⟨w.heap.size, 4, none⟩ (.string val) = W1 := ⟨_, rfl⟩
    rw [hW1] at X1 Z1 B1
    rw [hW1]
    have C := hide (segCopied_calls (.agg #[.int .i64 site, .int .i64 seq, .slice a dep.length cap, .string key, .string val]) ⟨site, seq, dep, key, val⟩ W1 ⟨a, cap, rfl, HN.out.below B1⟩ hl)
    clear hW1 hB X Z c3 c4 f3 f4
    obtain ⟨x0, x1, x2, x3, x4, -, -, -, -, -⟩ := cells5 X1
    have HX := hide X1
    have HZ := hide Z1
    have HS := hide (ltAt Z1)
    clear X1 Z1
    go_wp2_with fail
    refine C.out.mono ?_
    rintro e w2 ⟨v2, rfl, ⟨vd, rfl, hown⟩, hb2⟩
    dsimp only at *
    have Z2 := keepB HZ.out hb2
    have B2 := B1.trans (hb2.mono B1.size)
    obtain ⟨z0, z1, z2, z3, z4, g0, g1, g2, g3, g4⟩ := cells5 Z2
    obtain ⟨a', cap', rfl⟩ := ownsRow_slice hown
    have Hown := hide hown
    have HZ2 := hide Z2
    clear C x0 x1 x2 x3 x4 HX HZ hb2 Z2 hown
    go_wp2
    obtain ⟨W2, hW2⟩ : ∃ W2, put5 w2 (w.heap.size + 1) (.int .i64 site) (.int .i64 seq) (.slice a' dep.length cap') (.string key) (.string val) = W2 := ⟨_, rfl⟩
    have e2 := put5_heap HZ2.out (.int .i64 site) (.int .i64 seq) (.slice a' dep.length cap') (.string key) (.string val)
    have hB2 := put5_below B2 (show w.heap.size ≤ w.heap.size + 1 by omega) (.int .i64 site) (.int .i64 seq) (.slice a' dep.length cap') (.string key) (.string val)
    have hoth : ∀ k, k ≠ w.heap.size + 1 → W2.heap[k]? = w2.heap[k]? := fun k hk => by rw [← hW2]; exact put5_other k hk _ _ _ _ _
    rw [hW2] at e2 hB2
    unfold put5 at hW2
    rw [hW2]
    clear hW2 z0 z1 z2 z3 z4 g0 g1 g2 g3 g4
    obtain ⟨k0, k1, k2, k3, k4, -, -, -, -, -⟩ := cells5 e2
    refine bodyPost_ret (v := .agg #[.int .i64 site, .int .i64 seq, .slice a' dep.length cap', .string key, .string val]) (by simp [results, Tryz.f54, go_sem, k0, k1, k2, k3, k4]) rfl ⟨_, rfl, ⟨_, rfl, ?_⟩, hB2⟩
    have hs := HS.out
    exact ownsRow_low (ownsRow_of_heap Hown.out fun k hk => hoth k (by have := (Hown.out.lt k hk).1; omega)) (by omega)

end Go.Proofs.YtncmocmmkbmmjaaGreatDoor

/- seg's entries: text, parse. Own work; no statement. -/
set_option linter.unusedSimpArgs false
set_option linter.unusedVariables false
namespace Go.Proofs.YtncmocmmkbmmjaaGreatDoor
open Go.RowKit Go.Shelf Go.Sort

/-- An entry: its sign, a position or an epoch, a record. -/
structure EntD where
  sign : UInt8
  n : Int
  r : RecD

/-- In the world w the value v reads as the entry e; its record's numbers lie from B on. -/
def IsEnt (w : World) (B : Nat) (v : Value) (e : EntD) : Prop :=
  ∃ vd, v = .agg #[.string ⟨#[e.sign]⟩, .int .i64 e.n, .int .i64 e.r.site, .int .i64 e.r.seq, vd, .string e.r.key, .string e.r.val] ∧ w.ownsRow B 3 1 vd e.r.dep.length (e.r.dep.map (Value.int .i64))

theorem IsEnt.below {w w' : World} {B : Nat} {v : Value} {e : EntD} (h : IsEnt w B v e) (hb : Below w.heap.size w w') : IsEnt w' B v e := by
  obtain ⟨vd, rfl, hr⟩ := h
  exact ⟨vd, rfl, own_below hr hb⟩

/-- An entry in one line. -/
def textE (e : EntD) : ByteArray :=
  if e.sign = 112 then (⟨#[e.sign]⟩ : ByteArray) ++ ⟨#[32]⟩ ++ ⟨(Lib.itoa e.n).toArray⟩ ++ (⟨#[32]⟩ ++ textR e.r) else (⟨#[e.sign]⟩ : ByteArray) ++ ⟨#[32]⟩ ++ ⟨(Lib.itoa e.n).toArray⟩

theorem textR_size {r : RecD} (hs0 : -9223372036854775808 ≤ r.site) (hs1 : r.site ≤ 9223372036854775807) (hq0 : -9223372036854775808 ≤ r.seq) (hq1 : r.seq ≤ 9223372036854775807) (hr : InR r.dep) : (textR r).size ≤ 48 + 22 * r.dep.length + r.key.size + r.val.size := by
  have l1 := Lib.itoa_length_le r.site hs0 hs1
  have l2 := Lib.itoa_length_le r.seq hq0 hq1
  have l3 := textL_length hr
  unfold textR
  simp only [ByteArray.size_append]
  have z1 : (⟨(Lib.itoa r.site).toArray⟩ : ByteArray).size ≤ 21 := by simpa [ByteArray.size] using l1
  have z2 : (⟨(Lib.itoa r.seq).toArray⟩ : ByteArray).size ≤ 21 := by simpa [ByteArray.size] using l2
  have z3 : (⟨(textL r.dep).toArray⟩ : ByteArray).size ≤ 22 * r.dep.length + 2 := by simpa [ByteArray.size] using l3
  have z4 : (⟨#[58]⟩ : ByteArray).size = 1 := rfl
  have z5 : (⟨#[32]⟩ : ByteArray).size = 1 := rfl
  have z6 : (⟨#[61]⟩ : ByteArray).size = 1 := rfl
  omega

set_option maxHeartbeats 4000000 in
set_option maxRecDepth 100000 in
theorem entText_calls (B : Nat) (v : Value) (e : EntD) (w : World) (hv : IsEnt w B v e) (hn0 : -9223372036854775808 ≤ e.n) (hn1 : e.n ≤ 9223372036854775807) (hs0 : -9223372036854775808 ≤ e.r.site) (hs1 : e.r.site ≤ 9223372036854775807) (hq0 : -9223372036854775808 ≤ e.r.seq) (hq1 : e.r.seq ≤ 9223372036854775807) (hl : e.r.dep.length ≤ 4294967296) (hr : InR e.r.dep) (hks : e.r.key.size ≤ 1099511627776) (hvs : e.r.val.size ≤ 1099511627776) (hp : Pow w) :
    Calls Tryz.prog 80 #[v] w fun x w' => x = .returned (.string (textE e)) ∧ Below w.heap.size w w' := by
  obtain ⟨sign, n, r⟩ := e
  obtain ⟨vd, rfl, hd⟩ := hv
  dsimp only at *
  obtain ⟨a, cap, rfl⟩ := ownsRow_slice hd
  have HR := hide (fun w' (hb : Below w.heap.size w w') => recText_calls (.agg #[.int .i64 r.site, .int .i64 r.seq, .slice a r.dep.length cap, .string r.key, .string r.val]) r w' ⟨a, cap, rfl, (IsNums.of_row hd).below hb⟩ hs0 hs1 hq0 hq1 hl hr hks hvs (hp.below hb))
  have hts := textR_size hs0 hs1 hq0 hq1 hr
  have hts' : (textR r).size ≤ 4398046511104 := by omega
  clear hts
  obtain ⟨t, ht⟩ : ∃ t, textE ⟨sign, n, r⟩ = t := ⟨_, rfl⟩
  rw [ht]
  unfold textE at ht
  dsimp only at ht
  generalize textR r = T at *
  have l1 := Lib.itoa_length_le n hn0 hn1
  obtain ⟨P, hP⟩ : ∃ P : ByteArray, (⟨#[sign]⟩ : ByteArray) = P := ⟨_, rfl⟩
  have z0 : P.size = 1 := by rw [← hP]; rfl
  rw [hP] at ht ⊢
  have HB := box_below w (.cells #[.string P, .int .i64 n, .int .i64 r.site, .int .i64 r.seq, .slice a r.dep.length cap, .string r.key, .string r.val] 84)
  obtain ⟨W1, hW1⟩ : ∃ W1, w.alloc (.cells #[.string P, .int .i64 n, .int .i64 r.site, .int .i64 r.seq, .slice a r.dep.length cap, .string r.key, .string r.val] 84) = W1 := ⟨_, rfl⟩
  have x0 : W1.heap[w.heap.size]? = some (.cells #[.string P, .int .i64 n, .int .i64 r.site, .int .i64 r.seq, .slice a r.dep.length cap, .string r.key, .string r.val] 84 (0, 0)) := by rw [← hW1]; exact World.alloc_heap_new w _
  rw [hW1] at HB
  have k0 := cell_regrown (cells7 x0).1
  have k1 := cell_regrown (cells7 x0).2.1
  have q1 := hide (fun d os => Calls.regrown_of (itoa_calls n (grow (redrawn W1 d) os) hn0 hn1 ((hp.below HB).below (below_regrown W1 d os))))
  have z1 : (⟨(Lib.itoa n).toArray⟩ : ByteArray).size ≤ 21 := by simpa [ByteArray.size] using l1
  generalize (⟨(Lib.itoa n).toArray⟩ : ByteArray) = S1 at *
  have n1 : ¬ 9223372036854775807 < P.size + 1 := by omega
  have n2 : ¬ 9223372036854775807 < P.size + 1 + S1.size := by omega
  have Z0 := hide z0
  have Z1 := hide z1
  have HW := hide hW1
  have X0 := hide x0
  clear hW1 hp hr l1 x0 z0 z1
  have Ht := hide ht
  clear ht
  by_cases hsg : sign = 112
  · have e1 := Ht.out
    rw [if_pos hsg] at e1
    subst e1
    clear Ht
    have hPe : (P.toList == [112]) = true := by rw [← hP, hsg]; decide +kernel
    clear hP hsg
    go_enter Tryz.func80, Tryz.ntmps80
    go_wp2_with fail
    rw [HW.out]
    refine wp_region_quiet_below (by kernel_rfl) (by kernel_rfl) ?_
    repeat (quiet_step (first | exact q1.out _ _))
    refine wpQuiet_nil ?_
    intro _ hw'
    obtain ⟨⟨dq, osq⟩, hw''⟩ := hw'
    obtain ⟨W2, hW2⟩ : ∃ W2, grow (redrawn W1 dq) osq = W2 := ⟨_, rfl⟩
    have B2 : Below W1.heap.size W1 W2 := by rw [← hW2]; exact below_regrown W1 dq osq
    dsimp only at hw''
    rw [hW2] at hw''
    subst hw''
    clear hW2 k0 k1 q1
    have hB2 := HB.trans (B2.mono HB.size)
    have x2 := keepB X0.out B2
    obtain ⟨k0, k1, k2, k3, k4, k5, k6, -, -, -, -, -, -, -⟩ := cells7 x2
    obtain ⟨L, hL⟩ : ∃ L, P ++ ⟨#[32]⟩ ++ S1 = L := ⟨_, rfl⟩
    have zL : L.size ≤ 23 := by rw [← hL]; simp only [ByteArray.size_append]; have : (⟨#[32]⟩ : ByteArray).size = 1 := rfl; have := Z0.out; have := Z1.out; omega
    rw [hL]
    have HL := hide hL
    clear hL n1 n2
    clear x2
    have n3 : ¬ 9223372036854775807 < 1 + T.size := by omega
    have n4 : ¬ 9223372036854775807 < L.size + (1 + T.size) := by omega
    go_wp2_with (go_at_call 96; refine (HR.out _ hB2).mono ?_; rintro e w3 ⟨rfl, hb3⟩)
    rw [HL.out]
    go_ret
    exact ⟨rfl, hB2.trans (hb3.mono hB2.size)⟩
  · have e1 := Ht.out
    rw [if_neg hsg] at e1
    subst e1
    clear Ht
    have hPe : (P.toList == [112]) = false := by rw [← hP, Lib.toList_data]; simp [hsg]
    clear hP hsg
    go_enter Tryz.func80, Tryz.ntmps80
    go_wp2_with fail
    rw [HW.out]
    refine wp_region_quiet_below (by kernel_rfl) (by kernel_rfl) ?_
    repeat (quiet_step (first | exact q1.out _ _))
    refine wpQuiet_nil ?_
    intro _ hw'
    obtain ⟨⟨dq, osq⟩, hw''⟩ := hw'
    obtain ⟨W2, hW2⟩ : ∃ W2, grow (redrawn W1 dq) osq = W2 := ⟨_, rfl⟩
    have B2 : Below W1.heap.size W1 W2 := by rw [← hW2]; exact below_regrown W1 dq osq
    dsimp only at hw''
    rw [hW2] at hw''
    subst hw''
    clear hW2 k0 k1 q1
    have hB2 := HB.trans (B2.mono HB.size)
    have x2 := keepB X0.out B2
    have k0 := (cells7 x2).1
    clear x2
    go_wp2
    go_ret
    exact ⟨rfl, hB2⟩

/-- A line as an entry. -/
def parseE (l : List UInt8) : Option EntD :=
  if (cutL l 32).1 = [112] then
    (if (numL (cutL (cutL l 32).2.1 32).1).2 = true ∧ (parseR (cutL (cutL l 32).2.1 32).2.1).2 = 0 then some ⟨112, (numL (cutL (cutL l 32).2.1 32).1).1, (parseR (cutL (cutL l 32).2.1 32).2.1).1⟩ else none)
  else if (cutL l 32).1 = [115] then (if (numL (cutL l 32).2.1).2 = true then some ⟨115, (numL (cutL l 32).2.1).1, zeroR⟩ else none)
  else if (cutL l 32).1 = [99] then (if (numL (cutL l 32).2.1).2 = true then some ⟨99, (numL (cutL l 32).2.1).1, zeroR⟩ else none)
  else if (cutL l 32).1 = [116] then (if (numL (cutL l 32).2.1).2 = true then some ⟨116, (numL (cutL l 32).2.1).1, zeroR⟩ else none)
  else none

def putE (l : List UInt8) : Option EntD := if (numL (cutL l 32).1).2 = true ∧ (parseR (cutL l 32).2.1).2 = 0 then some ⟨112, (numL (cutL l 32).1).1, (parseR (cutL l 32).2.1).1⟩ else none
def numE (c : UInt8) (l : List UInt8) : Option EntD := if (numL l).2 = true then some ⟨c, (numL l).1, zeroR⟩ else none
theorem parseE_eq (l : List UInt8) : parseE l = if (cutL l 32).1 = [112] then putE (cutL l 32).2.1 else if (cutL l 32).1 = [115] then numE 115 (cutL l 32).2.1 else if (cutL l 32).1 = [99] then numE 99 (cutL l 32).2.1 else if (cutL l 32).1 = [116] then numE 116 (cutL l 32).2.1 else none := rfl

/-- What a parser of entries tells. -/
def GivesE (w : World) (o : Option EntD) (x : Ending) (w' : World) : Prop :=
  ∃ v, x = .returned (.tuple #[v, .bool o.isSome]) ∧ (∃ c n s q a m cap k z, v = .agg #[.string c, .int .i64 n, .int .i64 s, .int .i64 q, .slice a m cap, .string k, .string z]) ∧ (∀ e, o = some e → IsEnt w' w.heap.size v e) ∧ Below w.heap.size w w'

theorem zero_ent (B : Nat) (w : World) (c : UInt8) (n : Int) : IsEnt w B (.agg #[.string ⟨#[c]⟩, .int .i64 n, .int .i64 0, .int .i64 0, .slice none 0 0, .string ⟨#[]⟩, .string ⟨#[]⟩]) ⟨c, n, zeroR⟩ := ⟨_, rfl, World.ownsRow_nil _ _ _ _⟩

set_option maxHeartbeats 2000000 in
set_option maxRecDepth 100000 in
theorem parseNumber_calls (c : UInt8) (l : List UInt8) (w : World) (hs : l.length ≤ 1099511627776) :
    Calls Tryz.prog 66 #[.string ⟨#[c]⟩, .string ⟨l.toArray⟩] w (GivesE w (numE c l)) := by
  have u1 := hide (fun w => numParse_calls ⟨l.toArray⟩ w (by simpa [ByteArray.size] using hs))
  simp only [show (⟨l.toArray⟩ : ByteArray).data.toList = l from rfl] at u1
  obtain ⟨o, ho⟩ : ∃ o, numE c l = o := ⟨_, rfl⟩
  rw [ho]
  unfold numE at ho
  generalize numL l = p at *
  obtain ⟨n, b⟩ := p
  dsimp only at *
  have HB := box_below w (.cells #[.string ⟨#[]⟩, .int .i64 0, .int .i64 0, .int .i64 0, .slice none 0 0, .string ⟨#[]⟩, .string ⟨#[]⟩] 84)
  obtain ⟨W1, hW1⟩ : ∃ W1, w.alloc (.cells #[.string ⟨#[]⟩, .int .i64 0, .int .i64 0, .int .i64 0, .slice none 0 0, .string ⟨#[]⟩, .string ⟨#[]⟩] 84) = W1 := ⟨_, rfl⟩
  have x0 : W1.heap[w.heap.size]? = some (.cells #[.string ⟨#[]⟩, .int .i64 0, .int .i64 0, .int .i64 0, .slice none 0 0, .string ⟨#[]⟩, .string ⟨#[]⟩] 84 (0, 0)) := by rw [← hW1]; exact World.alloc_heap_new w _
  rw [hW1] at HB
  obtain ⟨k0, k1, k2, k3, k4, k5, k6, f0, f1, f2, f3, f4, f5, f6⟩ := cells7 x0
  have HW := hide hW1
  have X0 := hide x0
  clear hW1 x0
  cases b with
  | false =>
    simp at ho
    subst ho
    go_enter Tryz.func66, Tryz.ntmps66
    go_wp2_with (first | (go_at_call 88; rw [HW.out]; refine (u1.out _).mono ?_; rintro e w' ⟨rfl, hw'⟩; subst hw'))
    obtain ⟨W2, hW2⟩ : ∃ W2, put7 w' w.heap.size (.string ⟨#[]⟩) (.int .i64 0) (.int .i64 0) (.int .i64 0) (.slice none 0 0) (.string ⟨#[]⟩) (.string ⟨#[]⟩) = W2 := ⟨_, rfl⟩
    have e2 := put7_heap X0.out (.string ⟨#[]⟩) (.int .i64 0) (.int .i64 0) (.int .i64 0) (.slice none 0 0) (.string ⟨#[]⟩) (.string ⟨#[]⟩)
    have hB2 := put7_below HB (Nat.le_refl _) (.string ⟨#[]⟩) (.int .i64 0) (.int .i64 0) (.int .i64 0) (.slice none 0 0) (.string ⟨#[]⟩) (.string ⟨#[]⟩)
    rw [hW2] at e2 hB2
    unfold put7 put5 at hW2
    rw [hW2]
    clear hW2 k0 k1 k2 k3 k4 k5 k6 f0 f1 f2 f3 f4 f5 f6
    obtain ⟨k0, k1, k2, k3, k4, k5, k6, -, -, -, -, -, -, -⟩ := cells7 e2
    exact bodyPost_ret (v := .tuple #[.agg #[.string ⟨#[]⟩, .int .i64 0, .int .i64 0, .int .i64 0, .slice none 0 0, .string ⟨#[]⟩, .string ⟨#[]⟩], .bool false]) (by simp [results, Tryz.f66, go_sem, k0, k1, k2, k3, k4, k5, k6]) rfl ⟨_, rfl, ⟨_, _, _, _, _, _, _, _, _, rfl⟩, fun e h => (by cases h), hB2⟩
  | true =>
    simp at ho
    subst ho
    go_enter Tryz.func66, Tryz.ntmps66
    go_wp2_with (first | (go_at_call 88; rw [HW.out]; refine (u1.out _).mono ?_; rintro e w' ⟨rfl, hw'⟩; subst hw'))
    obtain ⟨W2, hW2⟩ : ∃ W2, put7 w' w.heap.size (.string ⟨#[c]⟩) (.int .i64 n) (.int .i64 0) (.int .i64 0) (.slice none 0 0) (.string ⟨#[]⟩) (.string ⟨#[]⟩) = W2 := ⟨_, rfl⟩
    have e2 := put7_heap X0.out (.string ⟨#[c]⟩) (.int .i64 n) (.int .i64 0) (.int .i64 0) (.slice none 0 0) (.string ⟨#[]⟩) (.string ⟨#[]⟩)
    have hB2 := put7_below HB (Nat.le_refl _) (.string ⟨#[c]⟩) (.int .i64 n) (.int .i64 0) (.int .i64 0) (.slice none 0 0) (.string ⟨#[]⟩) (.string ⟨#[]⟩)
    rw [hW2] at e2 hB2
    unfold put7 put5 at hW2
    rw [hW2]
    clear hW2 k0 k1 k2 k3 k4 k5 k6 f0 f1 f2 f3 f4 f5 f6
    obtain ⟨k0, k1, k2, k3, k4, k5, k6, -, -, -, -, -, -, -⟩ := cells7 e2
    exact bodyPost_ret (v := .tuple #[.agg #[.string ⟨#[c]⟩, .int .i64 n, .int .i64 0, .int .i64 0, .slice none 0 0, .string ⟨#[]⟩, .string ⟨#[]⟩], .bool true]) (by simp [results, Tryz.f66, go_sem, k0, k1, k2, k3, k4, k5, k6]) rfl ⟨_, rfl, ⟨_, _, _, _, _, _, _, _, _, rfl⟩, fun e h => (by cases h; exact zero_ent _ _ _ _), hB2⟩

end Go.Proofs.YtncmocmmkbmmjaaGreatDoor

/- seg's parsePut, parse. Own work; no statement. -/
set_option linter.unusedSimpArgs false
set_option linter.unusedVariables false
namespace Go.Proofs.YtncmocmmkbmmjaaGreatDoor
open Go.RowKit Go.Shelf Go.Sort

set_option maxHeartbeats 4000000 in
set_option maxRecDepth 100000 in
theorem parsePut_calls (l : List UInt8) (w : World) (hs : l.length ≤ 1099511627776) :
    Calls Tryz.prog 65 #[.string ⟨l.toArray⟩] w (GivesE w (putE l)) := by
  have u1 := hide (fun w => cut_calls l 32 w hs)
  have m1 := cutL_length l 32
  obtain ⟨o, ho⟩ : ∃ o, putE l = o := ⟨_, rfl⟩
  rw [ho]
  unfold putE at ho
  generalize cutL l 32 = c at *
  obtain ⟨word, text, b0⟩ := c
  dsimp only at *
  have u2 := hide (fun w => numParse_calls ⟨word.toArray⟩ w (by simp only [ByteArray.size, List.size_toArray]; omega))
  simp only [show (⟨word.toArray⟩ : ByteArray).data.toList = word from rfl] at u2
  have u3 := hide (fun w => recParse_calls text w (by omega))
  generalize numL word = p at *
  generalize parseR text = q at *
  obtain ⟨n, b⟩ := p
  obtain ⟨r, ec⟩ := q
  dsimp only at *
  have HB := box_below w (.cells #[.string ⟨#[]⟩, .int .i64 0, .int .i64 0, .int .i64 0, .slice none 0 0, .string ⟨#[]⟩, .string ⟨#[]⟩] 84)
  obtain ⟨W1, hW1⟩ : ∃ W1, w.alloc (.cells #[.string ⟨#[]⟩, .int .i64 0, .int .i64 0, .int .i64 0, .slice none 0 0, .string ⟨#[]⟩, .string ⟨#[]⟩] 84) = W1 := ⟨_, rfl⟩
  have x0 : W1.heap[w.heap.size]? = some (.cells #[.string ⟨#[]⟩, .int .i64 0, .int .i64 0, .int .i64 0, .slice none 0 0, .string ⟨#[]⟩, .string ⟨#[]⟩] 84 (0, 0)) := by rw [← hW1]; exact World.alloc_heap_new w _
  rw [hW1] at HB
  have HW := hide hW1
  have X0 := hide x0
  clear hW1 x0
  have Ho := hide ho
  clear ho
  go_enter Tryz.func65, Tryz.ntmps65
  go_wp2_with (first | (go_at_call 64; rw [HW.out]; refine (u1.out _).mono ?_; rintro e w' ⟨rfl, nq, hw'⟩; subst hw') | (go_at_call 88; refine (u2.out _).mono ?_; rintro e w' ⟨rfl, hw'⟩; subst hw'))
  refine (u3.out _).mono ?_
  rintro e w2 ⟨vr, rfl, ⟨vd, rfl, hown⟩, hB2⟩
  obtain ⟨a, cap, rfl⟩ := ownsRow_slice hown
  have B2 : Below w.heap.size w w2 := HB.trans (((below_draws nq).trans hB2).mono HB.size)
  have x2 := keepB (show (W1.drewN nq).heap[w.heap.size]? = _ from X0.out) hB2
  have lt2 := ltAt x2
  have hs1 := HB.size
  have own2 := ownsRow_low hown hs1
  have T : ∀ v0 v1 v2 v3 v4 v5 v6 W4, (put7 w2 w.heap.size v0 v1 v2 v3 v4 v5 v6).alloc (.cells #[.int .i64 r.site, .int .i64 r.seq, .slice a r.dep.length cap, .string r.key, .string r.val] 57) = W4 → W4.heap[w.heap.size]? = some (.cells #[v0, v1, v2, v3, v4, v5, v6] 84 (0, 0)) ∧ Below w.heap.size w W4 ∧ (∀ k, k < w2.heap.size → k ≠ w.heap.size → W4.heap[k]? = w2.heap[k]?) := by
    rintro v0 v1 v2 v3 v4 v5 v6 W4 rfl
    have hp := put7_heap x2 v0 v1 v2 v3 v4 v5 v6
    have hbb := put7_below B2 (Nat.le_refl _) v0 v1 v2 v3 v4 v5 v6
    have hsz : (put7 w2 w.heap.size v0 v1 v2 v3 v4 v5 v6).heap.size = w2.heap.size := by simp [put7, put5, World.setCell]
    exact ⟨(Below.heap_alloc _ _ _ (ltAt hp)).trans hp, hbb.alloc hbb.size _, fun k hk hne => (Below.heap_alloc _ _ _ (by omega)).trans (put7_other k hne _ _ _ _ _ _ _)⟩
  obtain ⟨k0, k1, k2, k3, k4, k5, k6, f0, f1, f2, f3, f4, f5, f6⟩ := cells7 x2
  have HT := hide T
  have X2 := hide x2
  have O2 := hide own2
  clear T x2 hown own2
  by_cases hok : b = true ∧ ec = 0
  · have e1 := Ho.out
    rw [if_pos hok] at e1
    subst e1
    obtain ⟨rfl, rfl⟩ := hok
    clear Ho
    go_wp2_with fail
    obtain ⟨W4, hW4⟩ : ∃ W4, (put7 w2 w.heap.size (.string ⟨#[112]⟩) (.int .i64 n) (.int .i64 r.site) (.int .i64 r.seq) (.slice a r.dep.length cap) (.string r.key) (.string r.val)).alloc (.cells #[.int .i64 r.site, .int .i64 r.seq, .slice a r.dep.length cap, .string r.key, .string r.val] 57) = W4 := ⟨_, rfl⟩
    obtain ⟨e2, hB4, hoth⟩ := HT.out (.string ⟨#[112]⟩) (.int .i64 n) (.int .i64 r.site) (.int .i64 r.seq) (.slice a r.dep.length cap) (.string r.key) (.string r.val) _ hW4
    unfold put7 put5 at hW4
    rw [hW4]
    clear hW4 k0 k1 k2 k3 k4 k5 k6 f0 f1 f2 f3 f4 f5 f6
    obtain ⟨k0, k1, k2, k3, k4, k5, k6, -, -, -, -, -, -, -⟩ := cells7 e2
    refine bodyPost_ret (v := .tuple #[.agg #[.string ⟨#[112]⟩, .int .i64 n, .int .i64 r.site, .int .i64 r.seq, .slice a r.dep.length cap, .string r.key, .string r.val], .bool true]) (by simp [results, Tryz.f65, go_sem, k0, k1, k2, k3, k4, k5, k6]) rfl ⟨_, rfl, ⟨_, _, _, _, _, _, _, _, _, rfl⟩, fun e h => ?_, hB4⟩
    cases h
    exact ⟨_, rfl, ownsRow_of_heap O2.out fun k hk => hoth k (O2.out.lt k hk).2 fun e => row_not O2.out X2.out (by decide) (by rw [← e]; exact hk.symm)⟩
  · have e1 := Ho.out
    rw [if_neg hok] at e1
    subst e1
    clear Ho
    cases b with
    | false =>
      clear hok
      go_wp2_with fail
      obtain ⟨W4, hW4⟩ : ∃ W4, (put7 w2 w.heap.size (.string ⟨#[]⟩) (.int .i64 0) (.int .i64 0) (.int .i64 0) (.slice none 0 0) (.string ⟨#[]⟩) (.string ⟨#[]⟩)).alloc (.cells #[.int .i64 r.site, .int .i64 r.seq, .slice a r.dep.length cap, .string r.key, .string r.val] 57) = W4 := ⟨_, rfl⟩
      obtain ⟨e2, hB4, hoth⟩ := HT.out (.string ⟨#[]⟩) (.int .i64 0) (.int .i64 0) (.int .i64 0) (.slice none 0 0) (.string ⟨#[]⟩) (.string ⟨#[]⟩) _ hW4
      unfold put7 put5 at hW4
      rw [hW4]
      clear hW4 k0 k1 k2 k3 k4 k5 k6 f0 f1 f2 f3 f4 f5 f6
      obtain ⟨k0, k1, k2, k3, k4, k5, k6, -, -, -, -, -, -, -⟩ := cells7 e2
      exact bodyPost_ret (v := .tuple #[.agg #[.string ⟨#[]⟩, .int .i64 0, .int .i64 0, .int .i64 0, .slice none 0 0, .string ⟨#[]⟩, .string ⟨#[]⟩], .bool false]) (by simp [results, Tryz.f65, go_sem, k0, k1, k2, k3, k4, k5, k6]) rfl ⟨_, rfl, ⟨_, _, _, _, _, _, _, _, _, rfl⟩, fun e h => (by cases h), hB4⟩
    | true =>
      have hec : (ec != 0) = true := by simpa using hok
      have hec' : ¬ ec = 0 := by simpa using hok
      clear hok
      go_wp2_with fail
      obtain ⟨W4, hW4⟩ : ∃ W4, (put7 w2 w.heap.size (.string ⟨#[]⟩) (.int .i64 0) (.int .i64 0) (.int .i64 0) (.slice none 0 0) (.string ⟨#[]⟩) (.string ⟨#[]⟩)).alloc (.cells #[.int .i64 r.site, .int .i64 r.seq, .slice a r.dep.length cap, .string r.key, .string r.val] 57) = W4 := ⟨_, rfl⟩
      obtain ⟨e2, hB4, hoth⟩ := HT.out (.string ⟨#[]⟩) (.int .i64 0) (.int .i64 0) (.int .i64 0) (.slice none 0 0) (.string ⟨#[]⟩) (.string ⟨#[]⟩) _ hW4
      unfold put7 put5 at hW4
      rw [hW4]
      clear hW4 k0 k1 k2 k3 k4 k5 k6 f0 f1 f2 f3 f4 f5 f6
      obtain ⟨k0, k1, k2, k3, k4, k5, k6, -, -, -, -, -, -, -⟩ := cells7 e2
      exact bodyPost_ret (v := .tuple #[.agg #[.string ⟨#[]⟩, .int .i64 0, .int .i64 0, .int .i64 0, .slice none 0 0, .string ⟨#[]⟩, .string ⟨#[]⟩], .bool false]) (by simp [results, Tryz.f65, go_sem, k0, k1, k2, k3, k4, k5, k6]) rfl ⟨_, rfl, ⟨_, _, _, _, _, _, _, _, _, rfl⟩, fun e h => (by cases h), hB4⟩

theorem str_is (l : List UInt8) (c : UInt8) (h : l = [c]) : (l == [c]) = true := by simp [h]
theorem str_isnt (l : List UInt8) (c : UInt8) (h : ¬ l = [c]) : (l == [c]) = false := by simpa using h

set_option maxHeartbeats 4000000 in
set_option maxRecDepth 100000 in
theorem segParse_calls (l : List UInt8) (w : World) (hs : l.length ≤ 1099511627776) :
    Calls Tryz.prog 38 #[.string ⟨l.toArray⟩] w (GivesE w (parseE l)) := by
  have u1 := hide (fun w => cut_calls l 32 w hs)
  have m1 := cutL_length l 32
  obtain ⟨o, ho⟩ : ∃ o, parseE l = o := ⟨_, rfl⟩
  rw [ho]
  rw [parseE_eq] at ho
  generalize cutL l 32 = c at *
  obtain ⟨sign, rest, b0⟩ := c
  dsimp only at *
  have HB := box_below w (.cells #[.string ⟨#[]⟩, .int .i64 0, .int .i64 0, .int .i64 0, .slice none 0 0, .string ⟨#[]⟩, .string ⟨#[]⟩] 84)
  obtain ⟨W1, hW1⟩ : ∃ W1, w.alloc (.cells #[.string ⟨#[]⟩, .int .i64 0, .int .i64 0, .int .i64 0, .slice none 0 0, .string ⟨#[]⟩, .string ⟨#[]⟩] 84) = W1 := ⟨_, rfl⟩
  have x0 : W1.heap[w.heap.size]? = some (.cells #[.string ⟨#[]⟩, .int .i64 0, .int .i64 0, .int .i64 0, .slice none 0 0, .string ⟨#[]⟩, .string ⟨#[]⟩] 84 (0, 0)) := by rw [← hW1]; exact World.alloc_heap_new w _
  rw [hW1] at HB
  have HW := hide hW1
  have X0 := hide x0
  clear hW1 x0
  have Ho := hide ho
  clear ho
  have e0 := Ho.out
  clear Ho
  by_cases hp : sign = [112]
  · rw [if_pos hp] at e0
    have s1 := str_is sign 112 hp
    have u2 := hide (fun w => parsePut_calls rest w (by omega))
    rw [e0] at u2
    clear hp e0
    go_enter Tryz.func38, Tryz.ntmps38
    go_wp2_with (first | (go_at_call 64; rw [HW.out]; refine (u1.out _).mono ?_; rintro e w' ⟨rfl, nq, hw'⟩; subst hw'))
    refine (u2.out _).mono ?_
    rintro e w2 ⟨v, rfl, ⟨pc, pn, ps, pq, pa, pm, pcap, pk, pz, rfl⟩, hE, hB2⟩
    have B2 : Below w.heap.size w w2 := HB.trans (((below_draws nq).trans hB2).mono HB.size)
    have z2 := keepB (show (W1.drewN nq).heap[w.heap.size]? = _ from X0.out) hB2
    obtain ⟨k0, k1, k2, k3, k4, k5, k6, f0, f1, f2, f3, f4, f5, f6⟩ := cells7 z2
    have Z2 := hide z2
    have HE := hide hE
    clear z2 hE
    go_wp2_with fail
    obtain ⟨W4, hW4⟩ : ∃ W4, put7 w2 w.heap.size (.string pc) (.int .i64 pn) (.int .i64 ps) (.int .i64 pq) (.slice pa pm pcap) (.string pk) (.string pz) = W4 := ⟨_, rfl⟩
    have e4 := put7_heap Z2.out (.string pc) (.int .i64 pn) (.int .i64 ps) (.int .i64 pq) (.slice pa pm pcap) (.string pk) (.string pz)
    have B4 := put7_below B2 (Nat.le_refl _) (.string pc) (.int .i64 pn) (.int .i64 ps) (.int .i64 pq) (.slice pa pm pcap) (.string pk) (.string pz)
    have hoth : ∀ k, k ≠ w.heap.size → W4.heap[k]? = w2.heap[k]? := fun k hk => by rw [← hW4]; exact put7_other k hk _ _ _ _ _ _ _
    rw [hW4] at e4 B4
    unfold put7 put5 at hW4
    rw [hW4]
    clear hW4 k0 k1 k2 k3 k4 k5 k6 f0 f1 f2 f3 f4 f5 f6
    obtain ⟨k0, k1, k2, k3, k4, k5, k6, -, -, -, -, -, -, -⟩ := cells7 e4
    refine bodyPost_ret (v := .tuple #[.agg #[.string pc, .int .i64 pn, .int .i64 ps, .int .i64 pq, .slice pa pm pcap, .string pk, .string pz], .bool _]) (by simp [results, Tryz.f38, go_sem, k0, k1, k2, k3, k4, k5, k6]) rfl ⟨_, rfl, ⟨_, _, _, _, _, _, _, _, _, rfl⟩, fun e h => ?_, B4⟩
    obtain ⟨vd, hv, hr⟩ := HE.out e h
    exact ⟨vd, hv, ownsRow_low (ownsRow_of_heap hr fun k hk => hoth k fun e => row_not hr Z2.out (by decide) (by rw [← e]; exact hk.symm)) (by have := HB.size; simpa using this)⟩
  rw [if_neg hp] at e0
  have s1 := str_isnt sign 112 hp
  clear hp
  by_cases hp : sign = [115]
  · rw [if_pos hp] at e0
    have s2 := str_is sign 115 hp
    have u2 := hide (fun w => parseNumber_calls 115 rest w (by omega))
    rw [e0] at u2
    rw [show (⟨#[115]⟩ : ByteArray) = ⟨sign.toArray⟩ by rw [hp]] at u2
    clear hp e0
    go_enter Tryz.func38, Tryz.ntmps38
    go_wp2_with (first | (go_at_call 64; rw [HW.out]; refine (u1.out _).mono ?_; rintro e w' ⟨rfl, nq, hw'⟩; subst hw'))
    refine (u2.out _).mono ?_
    rintro e w2 ⟨v, rfl, ⟨pc, pn, ps, pq, pa, pm, pcap, pk, pz, rfl⟩, hE, hB2⟩
    have B2 : Below w.heap.size w w2 := HB.trans (((below_draws nq).trans hB2).mono HB.size)
    have z2 := keepB (show (W1.drewN nq).heap[w.heap.size]? = _ from X0.out) hB2
    obtain ⟨k0, k1, k2, k3, k4, k5, k6, f0, f1, f2, f3, f4, f5, f6⟩ := cells7 z2
    have Z2 := hide z2
    have HE := hide hE
    clear z2 hE
    go_wp2_with fail
    obtain ⟨W4, hW4⟩ : ∃ W4, put7 w2 w.heap.size (.string pc) (.int .i64 pn) (.int .i64 ps) (.int .i64 pq) (.slice pa pm pcap) (.string pk) (.string pz) = W4 := ⟨_, rfl⟩
    have e4 := put7_heap Z2.out (.string pc) (.int .i64 pn) (.int .i64 ps) (.int .i64 pq) (.slice pa pm pcap) (.string pk) (.string pz)
    have B4 := put7_below B2 (Nat.le_refl _) (.string pc) (.int .i64 pn) (.int .i64 ps) (.int .i64 pq) (.slice pa pm pcap) (.string pk) (.string pz)
    have hoth : ∀ k, k ≠ w.heap.size → W4.heap[k]? = w2.heap[k]? := fun k hk => by rw [← hW4]; exact put7_other k hk _ _ _ _ _ _ _
    rw [hW4] at e4 B4
    unfold put7 put5 at hW4
    rw [hW4]
    clear hW4 k0 k1 k2 k3 k4 k5 k6 f0 f1 f2 f3 f4 f5 f6
    obtain ⟨k0, k1, k2, k3, k4, k5, k6, -, -, -, -, -, -, -⟩ := cells7 e4
    refine bodyPost_ret (v := .tuple #[.agg #[.string pc, .int .i64 pn, .int .i64 ps, .int .i64 pq, .slice pa pm pcap, .string pk, .string pz], .bool _]) (by simp [results, Tryz.f38, go_sem, k0, k1, k2, k3, k4, k5, k6]) rfl ⟨_, rfl, ⟨_, _, _, _, _, _, _, _, _, rfl⟩, fun e h => ?_, B4⟩
    obtain ⟨vd, hv, hr⟩ := HE.out e h
    exact ⟨vd, hv, ownsRow_low (ownsRow_of_heap hr fun k hk => hoth k fun e => row_not hr Z2.out (by decide) (by rw [← e]; exact hk.symm)) (by have := HB.size; simpa using this)⟩
  rw [if_neg hp] at e0
  have s115 := str_isnt sign 115 hp
  clear hp
  by_cases hp : sign = [99]
  · rw [if_pos hp] at e0
    have s2 := str_is sign 99 hp
    have u2 := hide (fun w => parseNumber_calls 99 rest w (by omega))
    rw [e0] at u2
    rw [show (⟨#[99]⟩ : ByteArray) = ⟨sign.toArray⟩ by rw [hp]] at u2
    clear hp e0
    go_enter Tryz.func38, Tryz.ntmps38
    go_wp2_with (first | (go_at_call 64; rw [HW.out]; refine (u1.out _).mono ?_; rintro e w' ⟨rfl, nq, hw'⟩; subst hw'))
    refine (u2.out _).mono ?_
    rintro e w2 ⟨v, rfl, ⟨pc, pn, ps, pq, pa, pm, pcap, pk, pz, rfl⟩, hE, hB2⟩
    have B2 : Below w.heap.size w w2 := HB.trans (((below_draws nq).trans hB2).mono HB.size)
    have z2 := keepB (show (W1.drewN nq).heap[w.heap.size]? = _ from X0.out) hB2
    obtain ⟨k0, k1, k2, k3, k4, k5, k6, f0, f1, f2, f3, f4, f5, f6⟩ := cells7 z2
    have Z2 := hide z2
    have HE := hide hE
    clear z2 hE
    go_wp2_with fail
    obtain ⟨W4, hW4⟩ : ∃ W4, put7 w2 w.heap.size (.string pc) (.int .i64 pn) (.int .i64 ps) (.int .i64 pq) (.slice pa pm pcap) (.string pk) (.string pz) = W4 := ⟨_, rfl⟩
    have e4 := put7_heap Z2.out (.string pc) (.int .i64 pn) (.int .i64 ps) (.int .i64 pq) (.slice pa pm pcap) (.string pk) (.string pz)
    have B4 := put7_below B2 (Nat.le_refl _) (.string pc) (.int .i64 pn) (.int .i64 ps) (.int .i64 pq) (.slice pa pm pcap) (.string pk) (.string pz)
    have hoth : ∀ k, k ≠ w.heap.size → W4.heap[k]? = w2.heap[k]? := fun k hk => by rw [← hW4]; exact put7_other k hk _ _ _ _ _ _ _
    rw [hW4] at e4 B4
    unfold put7 put5 at hW4
    rw [hW4]
    clear hW4 k0 k1 k2 k3 k4 k5 k6 f0 f1 f2 f3 f4 f5 f6
    obtain ⟨k0, k1, k2, k3, k4, k5, k6, -, -, -, -, -, -, -⟩ := cells7 e4
    refine bodyPost_ret (v := .tuple #[.agg #[.string pc, .int .i64 pn, .int .i64 ps, .int .i64 pq, .slice pa pm pcap, .string pk, .string pz], .bool _]) (by simp [results, Tryz.f38, go_sem, k0, k1, k2, k3, k4, k5, k6]) rfl ⟨_, rfl, ⟨_, _, _, _, _, _, _, _, _, rfl⟩, fun e h => ?_, B4⟩
    obtain ⟨vd, hv, hr⟩ := HE.out e h
    exact ⟨vd, hv, ownsRow_low (ownsRow_of_heap hr fun k hk => hoth k fun e => row_not hr Z2.out (by decide) (by rw [← e]; exact hk.symm)) (by have := HB.size; simpa using this)⟩
  rw [if_neg hp] at e0
  have s99 := str_isnt sign 99 hp
  clear hp
  by_cases hp : sign = [116]
  · rw [if_pos hp] at e0
    have s2 := str_is sign 116 hp
    have u2 := hide (fun w => parseNumber_calls 116 rest w (by omega))
    rw [e0] at u2
    rw [show (⟨#[116]⟩ : ByteArray) = ⟨sign.toArray⟩ by rw [hp]] at u2
    clear hp e0
    go_enter Tryz.func38, Tryz.ntmps38
    go_wp2_with (first | (go_at_call 64; rw [HW.out]; refine (u1.out _).mono ?_; rintro e w' ⟨rfl, nq, hw'⟩; subst hw'))
    refine (u2.out _).mono ?_
    rintro e w2 ⟨v, rfl, ⟨pc, pn, ps, pq, pa, pm, pcap, pk, pz, rfl⟩, hE, hB2⟩
    have B2 : Below w.heap.size w w2 := HB.trans (((below_draws nq).trans hB2).mono HB.size)
    have z2 := keepB (show (W1.drewN nq).heap[w.heap.size]? = _ from X0.out) hB2
    obtain ⟨k0, k1, k2, k3, k4, k5, k6, f0, f1, f2, f3, f4, f5, f6⟩ := cells7 z2
    have Z2 := hide z2
    have HE := hide hE
    clear z2 hE
    go_wp2_with fail
    obtain ⟨W4, hW4⟩ : ∃ W4, put7 w2 w.heap.size (.string pc) (.int .i64 pn) (.int .i64 ps) (.int .i64 pq) (.slice pa pm pcap) (.string pk) (.string pz) = W4 := ⟨_, rfl⟩
    have e4 := put7_heap Z2.out (.string pc) (.int .i64 pn) (.int .i64 ps) (.int .i64 pq) (.slice pa pm pcap) (.string pk) (.string pz)
    have B4 := put7_below B2 (Nat.le_refl _) (.string pc) (.int .i64 pn) (.int .i64 ps) (.int .i64 pq) (.slice pa pm pcap) (.string pk) (.string pz)
    have hoth : ∀ k, k ≠ w.heap.size → W4.heap[k]? = w2.heap[k]? := fun k hk => by rw [← hW4]; exact put7_other k hk _ _ _ _ _ _ _
    rw [hW4] at e4 B4
    unfold put7 put5 at hW4
    rw [hW4]
    clear hW4 k0 k1 k2 k3 k4 k5 k6 f0 f1 f2 f3 f4 f5 f6
    obtain ⟨k0, k1, k2, k3, k4, k5, k6, -, -, -, -, -, -, -⟩ := cells7 e4
    refine bodyPost_ret (v := .tuple #[.agg #[.string pc, .int .i64 pn, .int .i64 ps, .int .i64 pq, .slice pa pm pcap, .string pk, .string pz], .bool _]) (by simp [results, Tryz.f38, go_sem, k0, k1, k2, k3, k4, k5, k6]) rfl ⟨_, rfl, ⟨_, _, _, _, _, _, _, _, _, rfl⟩, fun e h => ?_, B4⟩
    obtain ⟨vd, hv, hr⟩ := HE.out e h
    exact ⟨vd, hv, ownsRow_low (ownsRow_of_heap hr fun k hk => hoth k fun e => row_not hr Z2.out (by decide) (by rw [← e]; exact hk.symm)) (by have := HB.size; simpa using this)⟩
  rw [if_neg hp] at e0
  have s116 := str_isnt sign 116 hp
  clear hp
  subst e0
  go_enter Tryz.func38, Tryz.ntmps38
  have z2 := X0.out
  obtain ⟨k0, k1, k2, k3, k4, k5, k6, f0, f1, f2, f3, f4, f5, f6⟩ := cells7 z2
  clear z2
  go_wp2_with (first | (go_at_call 64; rw [HW.out]; refine (u1.out _).mono ?_; rintro e w' ⟨rfl, nq, hw'⟩; subst hw'))
  obtain ⟨W4, hW4⟩ : ∃ W4, put7 (W1.drewN nq) w.heap.size (.string ⟨#[]⟩) (.int .i64 0) (.int .i64 0) (.int .i64 0) (.slice none 0 0) (.string ⟨#[]⟩) (.string ⟨#[]⟩) = W4 := ⟨_, rfl⟩
  have e4 := put7_heap (show (W1.drewN nq).heap[w.heap.size]? = _ from X0.out) (.string ⟨#[]⟩) (.int .i64 0) (.int .i64 0) (.int .i64 0) (.slice none 0 0) (.string ⟨#[]⟩) (.string ⟨#[]⟩)
  have B4 := put7_below (HB.trans (below_draws nq)) (Nat.le_refl _) (.string ⟨#[]⟩) (.int .i64 0) (.int .i64 0) (.int .i64 0) (.slice none 0 0) (.string ⟨#[]⟩) (.string ⟨#[]⟩)
  rw [hW4] at e4 B4
  unfold put7 put5 at hW4
  rw [hW4]
  clear hW4 k0 k1 k2 k3 k4 k5 k6 f0 f1 f2 f3 f4 f5 f6
  obtain ⟨k0, k1, k2, k3, k4, k5, k6, -, -, -, -, -, -, -⟩ := cells7 e4
  exact bodyPost_ret (v := .tuple #[.agg #[.string ⟨#[]⟩, .int .i64 0, .int .i64 0, .int .i64 0, .slice none 0 0, .string ⟨#[]⟩, .string ⟨#[]⟩], .bool false]) (by simp [results, Tryz.f38, go_sem, k0, k1, k2, k3, k4, k5, k6]) rfl ⟨_, rfl, ⟨_, _, _, _, _, _, _, _, _, rfl⟩, fun e h => (by cases h), B4⟩

end Go.Proofs.YtncmocmmkbmmjaaGreatDoor
