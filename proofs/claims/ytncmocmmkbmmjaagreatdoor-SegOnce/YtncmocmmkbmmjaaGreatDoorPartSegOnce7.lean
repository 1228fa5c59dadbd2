/- Own work: the parts D6, D7, S4, W10, W15, Plain, Words, Words2 of the proof, laid together. -/
import Derived.Test.YtncmocmmkbmmjaaGreatDoorPartSegOnce6
import Derived.Maps.OwnIn
import Derived.Test.YtncmocmmkbmmjaaGreatDoorPartSegOnce5
import Derived.Test.YtncmocmmkbmmjaaGreatDoorPartSegOnce2
import Derived.Test.YtncmocmmkbmmjaaGreatDoorPartSegOnce3
/- The laws' Lines, SameLines over disks' lines. Own work; no statement. -/
set_option linter.unusedSimpArgs false
set_option linter.unusedVariables false
namespace Go.Proofs.YtncmocmmkbmmjaaGreatDoor
open Go.RowKit Go.Shelf

attribute [local go_sem] Oper.semAt_some

/-- 'x = append(x, y)' by way of x's box. -/
theorem boxApp {W w1 : World} {b n₀ : Nat} {T e : TypeId} {v v1 : Value} {n m : Nat} {xs ys : List Value} {o : Obj} (hbx : Boxed W b T v) (hrow : W.ownsRow n₀ e 1 v n xs) (hb : b < n₀) (hn : n₀ ≤ W.heap.size)
    (hown1 : w1.ownsRow n₀ e 1 v1 m ys) (hgrow : (W.alloc o).grownBy w1 v.ownBlock) :
    Boxed w1 b T v ∧ Boxed (w1.setCell ⟨b, 0, none⟩ v1) b T v1 ∧ (w1.setCell ⟨b, 0, none⟩ v1).ownsRow n₀ e 1 v1 m ys ∧ KeepsOthers W (w1.setCell ⟨b, 0, none⟩ v1) ∧
      (∀ k, k < W.heap.size → k ≠ b → v.ownBlock ≠ some k → (w1.setCell ⟨b, 0, none⟩ v1).heap[k]? = W.heap[k]?) ∧ (∀ B w, B ≤ b → Below B w W → Below B w (w1.setCell ⟨b, 0, none⟩ v1)) := by
  have hne : some b ≠ v.ownBlock := fun e' => by have := (hrow.lt b e'.symm).1; omega
  have hv1 : Boxed w1 b T v := (hbx.alloc o).kept hgrow hne
  refine ⟨hv1, hv1.set v1, ownsRow_of_heap hown1 (fun k hk => Below.heap_setCell _ _ _ _ (fun e' => by have := (hown1.lt k hk).1; have e2 : k = b := e'; omega)), ?_, ?_, ?_⟩
  · refine ((KeepsOthers.alloc W o).trans (KeepsOthers.of_grownBy hgrow fun j o' ej hj => ?_)).trans (KeepsOthers.setCell _ _ _)
    rcases (hrow.alloc o).2 with ⟨rfl, _⟩ | ⟨g, cap, cur, rfl, _, hgb, _⟩
    · simp [Value.ownBlock] at ej
    · obtain rfl : g = j := by simpa [Value.ownBlock] using ej
      rw [hgb] at hj; cases hj; rfl
  · exact fun k hk hkB hkr => app_other hgrow k hk (fun e' => hkr e'.symm) hkB
  · intro B w hB h
    have := hbx.lt
    exact ((h.alloc (by omega) o).grown hgrow (by simp; omega) (fun j ej => by have := (hrow.lt j ej).1; omega)).setCell (p := ⟨b, 0, none⟩) hB v1

/-- Within the loop of Lines. -/
structure InLines (W : World) (s most : Nat) (l : List ByteArray) (k : Nat) (v : Value) : Prop where
  m : Boxed W s 3 (.int .i64 (most : Int))
  r1 : Boxed W (s + 1) 22 (.slice none 0 0)
  r2 : Boxed W (s + 2) 4 (.bool false)
  o : Boxed W (s + 3) 22 v
  row : W.ownsRow (s + 4) 9 1 v k ((l.take k).map Value.string)

theorem InLines.own {X Y : World} {row : Option Nat} {s most : Nat} {l : List ByteArray} {k : Nat} {v : Value} (h : InLines X s most l k v) (hg : X.grownBy Y row) (hrow : ∀ r, row = some r → ∃ o : Obj, X.heap[r]? = some o ∧ o.isCells = false) : InLines Y s most l k v :=
  ⟨boxed_own' hg hrow h.m, boxed_own' hg hrow h.r1, boxed_own' hg hrow h.r2, boxed_own' hg hrow h.o, ownsRow_own' hg hrow h.row⟩

set_option maxRecDepth 100000 in
set_option maxHeartbeats 4000000 in
theorem lawLines3_calls (b most : Nat) (l : List ByteArray) (w : World) (hs : IsSeq w b l) (hl : l.length ≤ most) (hm : most ≤ 1048576) :
    Calls Tryz.prog 15 #[.func (.func 49) #[] #[.pointer (some ⟨b, 0, none⟩)], .int .i64 (most : Int)] w fun e w' => ∃ v, e = .returned (.tuple #[v, .bool true]) ∧ w'.ownsRow w.heap.size 9 1 v l.length (l.map Value.string) ∧ Below w.heap.size w w' := by
  have heq : ∀ (fn : Fn) (first cap : Array Value) (w : World), (binOp .eql 42 (.func fn first cap) .nilFunc).run Tryz.prog w = .ok (.bool false) w := fun _ _ _ _ => by kernel_rfl
  obtain ⟨i0, hi, hz0, hz1, hz2⟩ := info_parts Tryz.info9
  obtain ⟨W4, hW4⟩ : ∃ W4, (((w.alloc (.cells #[.int .i64 (most : Int)] 3)).alloc (.cells #[.slice none 0 0] 22)).alloc (.cells #[.bool false] 4)).alloc (.cells #[.slice none 0 0] 22) = W4 := ⟨_, rfl⟩
  have HB4 : Below w.heap.size w W4 := by rw [← hW4]; exact ((((Below.refl _ w).alloc (Nat.le_refl _) _).alloc (by simp) _).alloc (by simp; omega) _).alloc (by simp; omega) _
  have hs4 : W4.heap.size = w.heap.size + 4 := by rw [← hW4]; simp
  have i4 : InLines W4 w.heap.size most l 0 (.slice none 0 0) := by
    refine ⟨?_, ?_, ?_, ?_, World.ownsRow_nil _ _ _ _⟩
    · rw [← hW4]; exact (((Boxed.new w _ _).alloc _).alloc _).alloc _
    · have := ((Boxed.new (w.alloc (.cells #[.int .i64 (most : Int)] 3)) 22 (.slice none 0 0)).alloc (.cells #[.bool false] 4)).alloc (.cells #[.slice none 0 0] 22)
      rw [hW4, World.size_alloc] at this
      exact this
    · have := (Boxed.new ((w.alloc (.cells #[.int .i64 (most : Int)] 3)).alloc (.cells #[.slice none 0 0] 22)) 4 (.bool false)).alloc (.cells #[.slice none 0 0] 22)
      rw [hW4, World.size_alloc, World.size_alloc] at this
      exact this
    · have := Boxed.new (((w.alloc (.cells #[.int .i64 (most : Int)] 3)).alloc (.cells #[.slice none 0 0] 22)).alloc (.cells #[.bool false] 4)) 22 (.slice none 0 0)
      rw [hW4, World.size_alloc, World.size_alloc, World.size_alloc] at this
      exact this
  obtain ⟨vs, gs, hbox, hvs, hrow⟩ := hs.below HB4
  have hin : ∀ k, onDisk b gs k → k < W4.heap.size := fun k hk => by
    rcases hk with rfl | e
    · exact ltAt hbox
    · exact (hrow.lt k (hvs.trans e)).2
  have hin' : ∀ k, onDisk b gs k → k < w.heap.size := by
    obtain ⟨vs', gs', hbox', hvs', hrow'⟩ := hs
    have e1 : vs = vs' := by
      have h1 := (HB4.block b (ltAt hbox')).trans hbox'
      rw [h1] at hbox
      simp at hbox
      exact hbox.symm
    subst e1
    intro k hk
    rcases hk with rfl | e
    · exact ltAt hbox'
    · exact (hrow'.lt k (hvs.trans e)).2
  have Hin := hide hin'
  have HW := hide hW4
  clear hW4 hs
  refine (callsIn_wide (n := 5)).1 ?_
  refine callsIn_of_wp_marks Tryz.func15 rfl trivial ?_ rfl
  simp only [Tryz.ntmps15, List.size_toArray, List.length_cons, List.length_nil, Nat.reduceAdd, Nat.reduceSub, Array.replicate_succ, Array.replicate_zero, List.push_toArray, List.append_toArray, List.nil_append, List.cons_append]
  gi_wp2_with fail
  rw [HW.out]
  simp only [Nat.add_assoc, Nat.reduceAdd]
  refine range_lawL (by decide) (gf := 49) (lb := #[.pointer (some ⟨b, 0, none⟩)]) rfl (enters_of Tryz.func49 (by kernel_rfl) rfl)
    (lines_seq 4 (by decide) b vs gs l (by omega) W4 hbox hvs hrow) keepsSeq_t (keepsSeq_b fun k hk => hin k hk) (fun _ => rfl)
    (fun k W => (∃ v, InLines W w.heap.size most l k v) ∧ Below w.heap.size w W)
    (fun _ _ _ => False)
    (OwnFrom.and (Own.from (fun k X Y row hs hg hr => let ⟨v, h⟩ := hs; ⟨v, h.own hg hr⟩) _) (ownFrom_below (Nat.le_refl _) (by omega)))
    (fun _ _ _ _ _ hs _ _ => hs)
    ⟨⟨_, i4⟩, HB4⟩
    (fun x => { tmps := #[.func (.func 49) #[] #[.pointer (some ⟨b, 0, none⟩)], .int .i64 (most : Int), undef, .pointer (some ⟨w.heap.size, 0, none⟩), .pointer (some ⟨w.heap.size + 1, 0, none⟩), .pointer (some ⟨w.heap.size + 2, 0, none⟩), .pointer (some ⟨w.heap.size + 3, 0, none⟩), .int .i64 (x.1 : Int), .string x.2, .func (.func 49) #[] #[.pointer (some ⟨b, 0, none⟩)], .bool false, .func (.func 49) #[] #[.pointer (some ⟨b, 0, none⟩)], .int .i64 (x.1 : Int), .string x.2, undef, undef, undef, undef, undef, undef, undef, undef, undef, undef, undef, undef, undef, undef, undef, undef], defers := [] }) ?assign ?body ?done ?stop
  case assign =>
    intro l x W K hK
    clear i4 hbox hrow
    dsimp only [encLine]
    gi_wp2
    exact hK
  case body =>
    clear i4 hbox hrow hin
    rintro lp k hk W ⟨⟨v, h⟩, hB⟩
    rw [placed_get]
    have hk' : k < l.length := by rw [placed_length] at hk; exact hk
    obtain ⟨s, hs⟩ : ∃ s, l[k] = s := ⟨_, rfl⟩
    rw [hs]
    obtain ⟨a, cap, rfl⟩ := ownsRow_slice h.row
    have c0 := h.m.cell
    have c3 := h.o.cell
    have hkm : (k : Int) < (most : Int) := by omega
    have hW4 := h.o.lt
    have H := hide h
    have HB := hide hB
    have Hs := hide hs
    clear h hB hs
    gi_wp2_with (gi_at_builtin; refine wpListIn_append_own_at _ rfl (.tmp 25) _ 22 rfl (w.heap.size + 4) 9 i0 _ 1 16 Tryz.underlying22 hi hz0 hz1 hz2 rfl (by decide) _ _ _ rfl (World.ownsRow.alloc H.out.row _) ⟨_, 0, none⟩ 1 1 [.string s] rfl rfl (cell_one_at (by simp)) (by intro u hu; simp at hu; subst hu; rfl) (by unfold maxLen; omega) (by omega) (by simp; omega) ?_; intro v1 w1 hown1 hgrow1 _ hat1; obtain ⟨bx1, bx2, row2, k1, o1, l1⟩ := boxApp H.out.o H.out.row (by omega) (by omega) hown1 hgrow1; have d1 := bx1.cell; have f1 := bx1.frozen; obtain ⟨ga, cap1, rfl⟩ := ownsRow_slice hown1; have K1 := hide k1; have O1 := hide o1; have L1 := hide l1; have R2 := hide row2; have B2 := hide bx2; clear hgrow1 hat1 hown1 k1 o1 l1 row2 bx1 bx2)
    have ho : ∀ j, j < w.heap.size + 3 → j < W.heap.size → (w1.setCell ⟨w.heap.size + 3, 0, none⟩ (.slice ga (k + 1) cap1)).heap[j]? = W.heap[j]? := fun j hj hj2 => O1.out j hj2 (by omega) (fun e => by have := (H.out.row.lt j e).1; omega)
    refine ⟨K1.out.from _, fun j hj => ho j (by have := Hin.out j hj; omega) (by have := Hin.out j hj; omega), ⟨_, ⟨boxed_of_heap H.out.m (ho _ (by omega) (by omega)), boxed_of_heap H.out.r1 (ho _ (by omega) (by omega)), boxed_of_heap H.out.r2 (ho _ (by omega) (by omega)), B2.out, ?_⟩⟩, L1.out _ _ (by omega) HB.out⟩
    have e1 : (l.take (k + 1)).map Value.string = (l.take k).map Value.string ++ [.string s] := by
      rw [List.take_add_one, List.getElem?_eq_getElem hk', Hs.out]
      simp
    rw [e1]
    exact R2.out
  case done =>
    clear i4 hbox hrow hin
    rintro Dd W hD ⟨⟨v, h⟩, hB⟩ hK
    rw [placed_length] at h
    have hrow := h.row
    rw [List.take_of_length_le (Nat.le_refl _)] at hrow
    obtain ⟨a, cap, rfl⟩ := ownsRow_slice hrow
    have c1 := h.r1.cell
    have c2 := h.r2.cell
    have c3 := h.o.cell
    have f1 := h.r1.frozen
    have f2 := h.r2.frozen
    have H := hide h
    have HB := hide hB
    have R := hide hrow
    clear h hB hrow
    gi_wp2_with fail
    obtain ⟨W3, hW3⟩ : ∃ W3, (W.setCell ⟨w.heap.size + 1, 0, none⟩ (.slice a l.length cap)).setCell ⟨w.heap.size + 2, 0, none⟩ (.bool true) = W3 := ⟨_, rfl⟩
    have hoth : ∀ k, k ≠ w.heap.size + 1 → k ≠ w.heap.size + 2 → W3.heap[k]? = W.heap[k]? := fun k h1 h2 => by rw [← hW3]; exact (Below.heap_setCell _ _ _ _ h2).trans (Below.heap_setCell _ _ _ _ h1)
    have hK3 : W3.heap[Dd]? = some (.deferred (some [])) := (hoth Dd (by omega) (by omega)).trans hK
    have R1 : Boxed W3 (w.heap.size + 1) 22 (.slice a l.length cap) := by rw [← hW3]; exact boxed_of_heap (H.out.r1.set _) (Below.heap_setCell _ _ _ _ (show w.heap.size + 1 ≠ w.heap.size + 2 by omega))
    have R2 : Boxed W3 (w.heap.size + 2) 4 (.bool true) := by rw [← hW3]; exact (boxed_of_heap H.out.r2 (Below.heap_setCell _ _ _ _ (show w.heap.size + 2 ≠ w.heap.size + 1 by omega))).set _
    have R3 : W3.ownsRow w.heap.size 9 1 (.slice a l.length cap) l.length (l.map Value.string) := ownsRow_low (ownsRow_of_heap R.out fun k e => by have := (R.out.lt k e).1; exact hoth k (by omega) (by omega)) (by omega)
    have B3 : Below w.heap.size w W3 := by rw [← hW3]; exact (HB.out.setCell (p := ⟨w.heap.size + 1, 0, none⟩) (by simp) _).setCell (p := ⟨w.heap.size + 2, 0, none⟩) (by simp) _
    rw [hW3]
    clear hoth hW3 c1 c2 c3 f1 f2 hK heq
    have hg := grownBy_putObj' W3 Dd (.deferred none)
    have hr : ∀ r, some Dd = some r → ∃ o : Obj, W3.heap[r]? = some o ∧ o.isCells = false := fun r e => by cases e; exact ⟨_, hK3, rfl⟩
    have Q1 := (boxed_own' hg hr R1).cell
    have Q2 := (boxed_own' hg hr R2).cell
    refine ⟨by simp, .inl ⟨_, _, rfl, run_takeDeferred hK3, ?_⟩⟩
    refine ⟨.tuple #[.slice a l.length cap, .bool true], by simp [results, Tryz.f15, go_sem, Q1, Q2], _, rfl, ownsRow_own' hg hr R3, ?_⟩
    exact B3.trans (belowK_b (w := w) (Nat.le_refl _) W3 Dd _ _ (by omega) hK3 rfl rfl)
  case stop =>
    rintro D c k W _ _ h _
    exact h.elim

/-- In the world w the slice v reads as the texts l. -/
def IsStrs (w : World) (v : Value) (l : List ByteArray) : Prop :=
  ∃ a cap, v = .slice a l.length cap ∧ l.length ≤ cap ∧ ∀ t (_ : t < l.length), ∃ b o, a = some ⟨b, o, none⟩ ∧ w.cell? ⟨b, o + t, none⟩ = some (.string l[t])

theorem IsStrs.of_row {w : World} {B : Nat} {e : TypeId} {v : Value} {l : List ByteArray} (h : w.ownsRow B e 1 v l.length (l.map Value.string)) : IsStrs w v l := by
  obtain ⟨a, cap, rfl⟩ := ownsRow_slice h
  refine ⟨a, cap, rfl, ?_, fun t ht => let ⟨b, e, hc⟩ := strs_cell h t ht; ⟨b, 0, e, by rw [Nat.zero_add]; exact hc⟩⟩
  rcases h.2 with ⟨h0, h1⟩ | ⟨g', cap', cur, h0, _, _, h1, _⟩ <;> (simp only [Value.slice.injEq] at h0; omega)
theorem IsStrs.below {w w' : World} {v : Value} {l : List ByteArray} (h : IsStrs w v l) (hb : Below w.heap.size w w') : IsStrs w' v l := by
  obtain ⟨a, cap, rfl, hcap, h⟩ := h
  exact ⟨a, cap, rfl, hcap, fun t ht => let ⟨b, o, e, hc⟩ := h t ht; ⟨b, o, e, (hb.cell (p := ⟨b, o + t, none⟩) (World.block_lt_of_cell? w _ hc)).trans hc⟩⟩

theorem strNe {a b : ByteArray} (h : ¬ a = b) : (a.toList == b.toList) = false := by
  rw [beq_eq_false_iff_ne, Lib.toList_data, Lib.toList_data]
  intro e
  exact h (ByteArray.ext (Array.toList_inj.1 e))

theorem take_grow {l m : List ByteArray} {k : Nat} (h : l.take k = m.take k) (hl : k < l.length) (hm : k < m.length) (e : l[k] = m[k]) : l.take (k + 1) = m.take (k + 1) := by
  rw [List.take_add_one, List.take_add_one, h, List.getElem?_eq_getElem hl, List.getElem?_eq_getElem hm, e]

set_option maxHeartbeats 2000000 in
theorem sameLines3_calls (v v' : Value) (l m : List ByteArray) (w : World) (hv : IsStrs w v l) (hv' : IsStrs w v' m) (hl : l.length ≤ 1048576) (hm : m.length ≤ 1048576) :
    Calls Tryz.prog 17 #[v, v'] w fun e w' => e = .returned (.bool (decide (l = m))) ∧ ∃ n, w' = w.drewN n := by
  obtain ⟨a, cap, rfl, -, ha⟩ := hv
  obtain ⟨a', cap', rfl, -, ha'⟩ := hv'
  have Ha := hide ha
  have Ha' := hide ha'
  clear ha ha'
  by_cases hlen : l.length = m.length
  · have hb : ((l.length : Int) != (m.length : Int)) = false := by simp [hlen]
    have hl1 : l.length ≤ m.length := by omega
    have hl2 : m.length ≤ l.length := by omega
    clear hlen
    go_enter Tryz.func17, Tryz.ntmps17
    go_wp2
    go_loopw [5] (fun i wr => ∃ (k n : Nat), i = .int .i64 (k : Int) ∧ k ≤ l.length ∧ l.take k = m.take k ∧ wr = w.drewN n) (fun i _ => l.length - (intOf i).toNat)
    case atStart => exact ⟨0, 0, rfl, Nat.zero_le _, by simp, rfl⟩
    case round =>
      obtain ⟨k, n, rfl, hk, ht, rfl⟩ := hrel
      have Ht := hide ht
      clear ht
      by_cases hlt : k < l.length
      · have hltI : (k : Int) < (l.length : Int) := by omega
        have hltI' : (k : Int) < (m.length : Int) := by omega
        obtain ⟨b, o, rfl, c1⟩ := Ha.out k hlt
        obtain ⟨b', o', rfl, c2⟩ := Ha'.out k (by omega)
        have d1 : (w.drewN n).cell? ⟨b, o + k, none⟩ = _ := c1
        have d2 : (w.drewN n).cell? ⟨b', o' + k, none⟩ = _ := c2
        have hm' : k < m.length := by omega
        have hgrow : Hid (l[k] = m[k] → l.take (k + 1) = m.take (k + 1)) := fun e => take_grow Ht.out hlt hm' e
        have hbad : Hid (¬ l[k] = m[k] → ¬ l = m) := fun h e => h (by subst e; rfl)
        generalize l[k] = x at *
        generalize m[k] = y at *
        by_cases hxy : x = y
        · subst hxy
          go_wp2
          go_quiet (fail)
          go_wp2
          exact ⟨⟨k + 1, n + nq, by go_num, by omega, hgrow.out (by first | rfl | trivial), rfl⟩, by simp [intOf]; omega⟩
        · have hne := strNe hxy
          go_wp2
          go_quiet (fail)
          go_wp2
          go_ret
          exact ⟨congrArg (fun b => Ending.returned (.bool b)) (decide_eq_false (hbad.out hxy)).symm, n + nq, World.drewN_drewN _ _ _⟩
      · have e : k = l.length := by omega
        subst e
        go_wp2
        go_ret
        have := Ht.out
        rw [List.take_of_length_le (Nat.le_refl _), List.take_of_length_le (by omega)] at this
        exact ⟨congrArg (fun b => Ending.returned (.bool b)) (decide_eq_true this).symm, n, rfl⟩
  · have hb : ((l.length : Int) != (m.length : Int)) = true := by simp; omega
    have hne : ¬ l = m := fun e => hlen (by rw [e])
    rw [decide_eq_false hne]
    clear hne
    go_enter Tryz.func17, Tryz.ntmps17
    go_wp2
    go_ret
    exact ⟨rfl, 0, rfl⟩

end Go.Proofs.YtncmocmmkbmmjaaGreatDoor

/- The laws' known, over disks. Own work; no statement. -/
set_option linter.unusedSimpArgs false
set_option linter.unusedVariables false
namespace Go.Proofs.YtncmocmmkbmmjaaGreatDoor
open Go.RowKit Go.Shelf

theorem IsDisk.drews {w : World} {B p : Nat} {g : Option Nat} {D : DiskD} (h : IsDisk w B p g D) (n : Nat) : IsDisk (w.drewN n) B p g D := h.keep fun _ _ => rfl
/-- A disk's own changes lie from B on. -/
theorem IsDisk.below {w w' : World} {B p : Nat} {g : Option Nat} {D : DiskD} (h : IsDisk w B p g D) (hB : B ≤ w.heap.size) (t : Touch (onDisk p g) w w') : Below B w w' := t.below hB fun _ _ e => (h.on e).1

/-- Write, what it answers and makes named. -/
theorem diskWrite_to (B p : Nat) (g : Option Nat) (D : DiskD) (s : ByteArray) (c : Int) (D' : DiskD) (he : writeE D s = c) (hD : writeD D s = D') (w : World) (hd : IsDisk w B p g D) (hB : B ≤ w.heap.size) (hs : s.size ≤ 1099511627776) :
    Calls Tryz.prog 10 #[.pointer (some ⟨p, 0, none⟩), .string s] w fun e w' => e = .returned (.int .i64 c) ∧ ∃ g', IsDisk w' B p g' D' ∧ Touch (onDisk p g) w w' ∧ (∀ k, g' = some k → g = some k ∨ w.heap.size ≤ k) := by
  subst he
  subst hD
  exact diskWrite_calls B p g D s w hd hB hs
theorem diskCrash_to (B p : Nat) (g : Option Nat) (D : DiskD) (keep : Int) (D' : DiskD) (hD : crashD D keep = D') (w : World) (hd : IsDisk w B p g D) (hk0 : -9223372036854775808 ≤ keep) (hk1 : keep ≤ 9223372036854775807) :
    Calls Tryz.prog 26 #[.pointer (some ⟨p, 0, none⟩), .int .i64 keep] w fun e w' => e = .returned (.tuple #[]) ∧ IsDisk w' B p g D' ∧ Touch (onDisk p g) w w' := by
  subst hD
  exact diskCrash_calls B p g D keep w hd hk0 hk1
theorem diskCut_to (B p : Nat) (g : Option Nat) (D : DiskD) (n c : Int) (D' : DiskD) (he : cutE D n = c) (hD : cutD D n = D') (w : World) (hd : IsDisk w B p g D) :
    Calls Tryz.prog 42 #[.pointer (some ⟨p, 0, none⟩), .int .i64 n] w fun e w' => e = .returned (.int .i64 c) ∧ IsDisk w' B p g D' ∧ Touch (onDisk p g) w w' := by
  subst he
  subst hD
  exact diskCut_calls B p g D n w hd

theorem diskLen_to (B p : Nat) (g : Option Nat) (D : DiskD) (c : Int) (hc : (D.lines.length : Int) = c) (w : World) (hd : IsDisk w B p g D) :
    Calls Tryz.prog 41 #[.pointer (some ⟨p, 0, none⟩)] w fun e w' => e = .returned (.int .i64 c) ∧ w' = w := by
  subst hc
  exact diskLen_calls B p g D w hd
theorem diskWaits_to (B p : Nat) (g : Option Nat) (D : DiskD) (c : Int) (hc : (D.lines.length : Int) - (D.lasts : Int) = c) (w : World) (hd : IsDisk w B p g D) :
    Calls Tryz.prog 18 #[.pointer (some ⟨p, 0, none⟩)] w fun e w' => e = .returned (.int .i64 c) ∧ ∃ n, w' = w.drewN n := by
  subst hc
  exact diskWaits_calls B p g D w hd
theorem diskSync_to (B p : Nat) (g : Option Nat) (D : DiskD) (m : Nat) (hm : D.lines.length = m) (w : World) (hd : IsDisk w B p g D) :
    Calls Tryz.prog 31 #[.pointer (some ⟨p, 0, none⟩)] w fun e w' => e = .returned (.tuple #[]) ∧ IsDisk w' B p g ⟨D.room, D.lines, m⟩ ∧ Touch (onDisk p g) w w' := by
  subst hm
  exact diskSync_calls B p g D w hd

/-- Two disks that lie apart. -/
def Apart (p : Nat) (g : Option Nat) (p' : Nat) (g' : Option Nat) : Prop := ∀ k, onDisk p g k → ¬ onDisk p' g' k
theorem Apart.symm {p p' : Nat} {g g' : Option Nat} (h : Apart p g p' g') : Apart p' g' p g := fun k h1 h2 => h k h2 h1
/-- A new one lies apart from an elder one. -/
theorem apart_new {w w' : World} {B B' p p' : Nat} {g g' : Option Nat} {D D' : DiskD} (h : IsDisk w B p g D) (h' : IsDisk w' B' p' g' D') (hB : w.heap.size ≤ B') : Apart p g p' g' := fun k h1 h2 => by
  have := (h.on h1).2
  have := (h'.on h2).1
  omega
/-- One that goes on apart from another one stays so. -/
theorem Apart.goes {w : World} {B p p' : Nat} {g g1 g' : Option Nat} {D : DiskD} (h : Apart p g p' g') (hd : IsDisk w B p' g' D) (hg : ∀ k, g1 = some k → g = some k ∨ w.heap.size ≤ k) : Apart p g1 p' g' := fun k h1 h2 => by
  rcases h1 with rfl | e
  · exact h k (.inl rfl) h2
  · rcases hg k e with e' | e'
    · exact h k (.inr e') h2
    · have := (hd.on h2).2
      omega

end Go.Proofs.YtncmocmmkbmmjaaGreatDoor

/- seg's small functions: isEpoch, owned; structs of seven cells. Own work; no statement. -/
set_option linter.unusedSimpArgs false
set_option linter.unusedVariables false
namespace Go.Proofs.YtncmocmmkbmmjaaGreatDoor
open Go.RowKit Go.Shelf Go.Sort

theorem cells5 {W : World} {b : Nat} {x0 x1 x2 x3 x4 : Value} {t : TypeId} (h : W.heap[b]? = some (.cells #[x0, x1, x2, x3, x4] t (0, 0))) :
    W.cell? ⟨b, 0, none⟩ = some x0 ∧ W.cell? ⟨b, 1, none⟩ = some x1 ∧ W.cell? ⟨b, 2, none⟩ = some x2 ∧ W.cell? ⟨b, 3, none⟩ = some x3 ∧ W.cell? ⟨b, 4, none⟩ = some x4 ∧
    W.frozen? ⟨b, 0, none⟩ = false ∧ W.frozen? ⟨b, 1, none⟩ = false ∧ W.frozen? ⟨b, 2, none⟩ = false ∧ W.frozen? ⟨b, 3, none⟩ = false ∧ W.frozen? ⟨b, 4, none⟩ = false :=
  ⟨by simpa using cellsAt h 0, by simpa using cellsAt h 1, by simpa using cellsAt h 2, by simpa using cellsAt h 3, by simpa using cellsAt h 4, frozenAt h _, frozenAt h _, frozenAt h _, frozenAt h _, frozenAt h _⟩
theorem cells7 {W : World} {b : Nat} {x0 x1 x2 x3 x4 x5 x6 : Value} {t : TypeId} (h : W.heap[b]? = some (.cells #[x0, x1, x2, x3, x4, x5, x6] t (0, 0))) :
    W.cell? ⟨b, 0, none⟩ = some x0 ∧ W.cell? ⟨b, 1, none⟩ = some x1 ∧ W.cell? ⟨b, 2, none⟩ = some x2 ∧ W.cell? ⟨b, 3, none⟩ = some x3 ∧ W.cell? ⟨b, 4, none⟩ = some x4 ∧ W.cell? ⟨b, 5, none⟩ = some x5 ∧ W.cell? ⟨b, 6, none⟩ = some x6 ∧
    W.frozen? ⟨b, 0, none⟩ = false ∧ W.frozen? ⟨b, 1, none⟩ = false ∧ W.frozen? ⟨b, 2, none⟩ = false ∧ W.frozen? ⟨b, 3, none⟩ = false ∧ W.frozen? ⟨b, 4, none⟩ = false ∧ W.frozen? ⟨b, 5, none⟩ = false ∧ W.frozen? ⟨b, 6, none⟩ = false :=
  ⟨by simpa using cellsAt h 0, by simpa using cellsAt h 1, by simpa using cellsAt h 2, by simpa using cellsAt h 3, by simpa using cellsAt h 4, by simpa using cellsAt h 5, by simpa using cellsAt h 6, frozenAt h _, frozenAt h _, frozenAt h _, frozenAt h _, frozenAt h _, frozenAt h _, frozenAt h _⟩

/-- A struct of seven cells, stored whole. -/
def put7 (W : World) (b : Nat) (v0 v1 v2 v3 v4 v5 v6 : Value) : World := ((put5 W b v0 v1 v2 v3 v4).setCell ⟨b, 5, none⟩ v5).setCell ⟨b, 6, none⟩ v6
theorem put7_heap {W : World} {b : Nat} {x0 x1 x2 x3 x4 x5 x6 : Value} {t : TypeId} {f : Nat × Nat} (h : W.heap[b]? = some (.cells #[x0, x1, x2, x3, x4, x5, x6] t f)) (v0 v1 v2 v3 v4 v5 v6 : Value) :
    (put7 W b v0 v1 v2 v3 v4 v5 v6).heap[b]? = some (.cells #[v0, v1, v2, v3, v4, v5, v6] t f) := by
  have := set1 (j := 6) (set1 (j := 5) (set1 (j := 4) (set1 (j := 3) (set1 (j := 2) (set1 (j := 1) (set1 (j := 0) h v0) v1) v2) v3) v4) v5) v6
  simpa [put7, put5] using this
theorem put7_below {B b : Nat} {w W : World} (h : Below B w W) (hb : B ≤ b) (v0 v1 v2 v3 v4 v5 v6 : Value) : Below B w (put7 W b v0 v1 v2 v3 v4 v5 v6) :=
  ((put5_below h hb v0 v1 v2 v3 v4).setCell (p := ⟨b, 5, none⟩) hb v5).setCell (p := ⟨b, 6, none⟩) hb v6
theorem put7_other {b : Nat} {W : World} (k : Nat) (h : k ≠ b) (v0 v1 v2 v3 v4 v5 v6 : Value) : (put7 W b v0 v1 v2 v3 v4 v5 v6).heap[k]? = W.heap[k]? := by
  unfold put7
  rw [Below.heap_setCell _ ⟨b, 6, none⟩ _ k h, Below.heap_setCell _ ⟨b, 5, none⟩ _ k h, put5_other k h]

set_option maxHeartbeats 400000 in
theorem isEpoch_calls (n : Int) (w : World) : Calls Tryz.prog 50 #[.int .i64 n] w fun e w' => e = .returned (.bool (decide (1 ≤ n ∧ n ≤ 2147483647))) ∧ w' = w := by
  by_cases h0 : 1 ≤ n
  · by_cases h1 : n ≤ 2147483647
    · rw [decide_eq_true ⟨h0, h1⟩]
      go_enter Tryz.func50, Tryz.ntmps50
      go_wp2
      go_ret
      exact ⟨by simp [h1], rfl⟩
    · rw [decide_eq_false (fun h => h1 h.2)]
      go_enter Tryz.func50, Tryz.ntmps50
      go_wp2
      go_ret
      exact ⟨by simp [h1], rfl⟩
  · rw [decide_eq_false (fun h => h0 h.1)]
    go_enter Tryz.func50, Tryz.ntmps50
    go_wp2
    go_ret
    exact ⟨by simp [h0], rfl⟩

set_option maxHeartbeats 4000000 in
set_option maxRecDepth 100000 in
theorem owned_calls (v : Value) (r : RecD) (w : World) (hv : IsRec w v r) (hl : r.dep.length ≤ 17592186044416) (hk : r.key.size ≤ 1099511627776) (hvl : r.val.size ≤ 1099511627776) :
    Calls Tryz.prog 54 #[v] w fun e w' => ∃ v', e = .returned v' ∧ OwnRec w.heap.size w' v' r ∧ Below w.heap.size w w' := by
  obtain ⟨site, seq, dep, key, val⟩ := r
  obtain ⟨a, cap, rfl, hn⟩ := hv
  dsimp only at *
  obtain ⟨W0, hW0⟩ : ∃ W0, (w.alloc (.cells #[.int .i64 site, .int .i64 seq, .slice a dep.length cap, .string key, .string val] 57)).alloc (.cells #[.int .i64 0, .int .i64 0, .slice none 0 0, .string ⟨#[]⟩, .string ⟨#[]⟩] 57) = W0 := ⟨_, rfl⟩
  have hB : Below w.heap.size w W0 := by rw [← hW0]; exact (box_below w _).alloc (by simp) _
  have hsz : w.heap.size + 2 ≤ W0.heap.size := by rw [← hW0]; simp
  have h0 : W0.heap[w.heap.size]? = some (.cells #[.int .i64 site, .int .i64 seq, .slice a dep.length cap, .string key, .string val] 57 (0, 0)) := by
    rw [← hW0]; exact (Below.heap_alloc _ _ _ (by simp)).trans (World.alloc_heap_new w _)
  have h1 : W0.heap[w.heap.size + 1]? = some (.cells #[.int .i64 0, .int .i64 0, .slice none 0 0, .string ⟨#[]⟩, .string ⟨#[]⟩] 57 (0, 0)) := by
    have := World.alloc_heap_new (w.alloc (.cells #[.int .i64 site, .int .i64 seq, .slice a dep.length cap, .string key, .string val] 57)) (.cells #[.int .i64 0, .int .i64 0, .slice none 0 0, .string ⟨#[]⟩, .string ⟨#[]⟩] 57)
    rw [hW0, World.size_alloc] at this
    exact this
  have q4 := hide (fun w => clone_calls key w hk)
  have q5 := hide (fun w => clone_calls val w hvl)
  have X := hide h0
  have Z := hide h1
  have HN := hide hn
  have HW := hide hW0
  clear hW0 hn h0 h1
  go_enter Tryz.func54, Tryz.ntmps54
  go_wp2_with fail
  rw [HW.out]
  clear HW
  replace X := hide (show W0.drew.heap[w.heap.size]? = _ from X.out)
  replace Z := hide (show W0.drew.heap[w.heap.size + 1]? = _ from Z.out)
  replace hB := hB.drew
  have c3 := (cells5 X.out).2.2.2.1
  have c4 := (cells5 X.out).2.2.2.2.1
  have f3 := frozenAt X.out 3
  have f4 := frozenAt X.out 4
  go_region_with (first | (go_at_call_of 35 (Value.string key); refine (q4.out _).mono ?_; rintro e w' ⟨rfl, hb⟩; replace X := hide (keepB X.out hb); replace Z := hide (keepB Z.out hb); replace hB := hB.trans (hb.mono hB.size); have c3 := (cells5 X.out).2.2.2.1; have c4 := (cells5 X.out).2.2.2.2.1; have f3 := frozenAt X.out 3; have f4 := frozenAt X.out 4) | (go_at_call_of 35 (Value.string val); refine (q5.out _).mono ?_; rintro e w' ⟨rfl, hb⟩; replace X := hide (keepB X.out hb); replace Z := hide (keepB Z.out hb); replace hB := hB.trans (hb.mono hB.size); have c3 := (cells5 X.out).2.2.2.1; have c4 := (cells5 X.out).2.2.2.2.1; have f3 := frozenAt X.out 3; have f4 := frozenAt X.out 4))
  all_goals
    have X1 : ((w'.setCell ⟨w.heap.size, 3, none⟩ (.string key)).setCell ⟨w.heap.size, 4, none⟩ (.string val)).heap[w.heap.size]? = some (.cells #[.int .i64 site, .int .i64 seq, .slice a dep.length cap, .string key, .string val] 57 (0, 0)) := by
      simpa using set1 (j := 4) (set1 (j := 3) X.out (.string key)) (.string val)
    have Z1 := (Below.heap_setCell (w'.setCell ⟨w.heap.size, 3, none⟩ (.string key)) ⟨w.heap.size, 4, none⟩ (.string val) (w.heap.size + 1) (by simp)).trans ((Below.heap_setCell w' ⟨w.heap.size, 3, none⟩ (.string key) (w.heap.size + 1) (by simp)).trans Z.out)
    have B1 := (hB.setCell (p := ⟨w.heap.size, 3, none⟩) (Nat.le_refl _) (.string key)).setCell (p := ⟨w.heap.size, 4, none⟩) (Nat.le_refl _) (.string val)
    obtain ⟨W1, hW1⟩ : ∃ W1, (w'.setCell ⟨w.heap.size, 3, none⟩ (.string key)).setCell ⟨w.heap.size, 4, none⟩ (.string val) = W1 := ⟨_, rfl⟩
    rw [hW1] at X1 Z1 B1
    rw [hW1]
    have C := hide (segCopied_calls (.agg #[.int .i64 site, .int .i64 seq, .slice a dep.length cap, .string key, .string val]) ⟨site, seq, dep, key, val⟩ W1 ⟨a, cap, rfl, HN.out.below B1⟩ hl)
    clear hW1 hB X Z c3 c4 f3 f4
    obtain ⟨x0, x1, x2, x3, x4, -, -, -, -, -⟩ := cells5 X1
    have HX := hide X1
    have HZ := hide Z1
    have HS := hide (ltAt Z1)
    clear X1 Z1
    go_wp2_with fail
    refine C.out.mono ?_
    rintro e w2 ⟨v2, rfl, ⟨vd, rfl, hown⟩, hb2⟩
    dsimp only at *
    have Z2 := keepB HZ.out hb2
    have B2 := B1.trans (hb2.mono B1.size)
    obtain ⟨z0, z1, z2, z3, z4, g0, g1, g2, g3, g4⟩ := cells5 Z2
    obtain ⟨a', cap', rfl⟩ := ownsRow_slice hown
    have Hown := hide hown
    have HZ2 := hide Z2
    clear C x0 x1 x2 x3 x4 HX HZ hb2 Z2 hown
    go_wp2
    obtain ⟨W2, hW2⟩ : ∃ W2, put5 w2 (w.heap.size + 1) (.int .i64 site) (.int .i64 seq) (.slice a' dep.length cap') (.string key) (.string val) = W2 := ⟨_, rfl⟩
    have e2 := put5_heap HZ2.out (.int .i64 site) (.int .i64 seq) (.slice a' dep.length cap') (.string key) (.string val)
    have hB2 := put5_below B2 (show w.heap.size ≤ w.heap.size + 1 by omega) (.int .i64 site) (.int .i64 seq) (.slice a' dep.length cap') (.string key) (.string val)
    have hoth : ∀ k, k ≠ w.heap.size + 1 → W2.heap[k]? = w2.heap[k]? := fun k hk => by rw [← hW2]; exact put5_other k hk _ _ _ _ _
    rw [hW2] at e2 hB2
    unfold put5 at hW2
    rw [hW2]
    clear hW2 z0 z1 z2 z3 z4 g0 g1 g2 g3 g4
    obtain ⟨k0, k1, k2, k3, k4, -, -, -, -, -⟩ := cells5 e2
    refine bodyPost_ret (v := .agg #[.int .i64 site, .int .i64 seq, .slice a' dep.length cap', .string key, .string val]) (by simp [results, Tryz.f54, go_sem, k0, k1, k2, k3, k4]) rfl ⟨_, rfl, ⟨_, rfl, ?_⟩, hB2⟩
    have hs := HS.out
    exact ownsRow_low (ownsRow_of_heap Hown.out fun k hk => hoth k (by have := (Hown.out.lt k hk).1; omega)) (by omega)

end Go.Proofs.YtncmocmmkbmmjaaGreatDoor

/- The laws' Pairs: what a range over pairs of numbers tells. Own work; no statement. -/
set_option linter.unusedSimpArgs false
set_option linter.unusedVariables false
namespace Go.Proofs.YtncmocmmkbmmjaaGreatDoor
open Go.RowKit Go.Shelf

attribute [local go_sem] Oper.semAt_some
end Go.Proofs.YtncmocmmkbmmjaaGreatDoor

/- The laws' known(): two vectors, joined, met, in words: it answers true in whatever world that has the library's table of powers of ten. Own work; no statement. -/
set_option linter.unusedSimpArgs false
set_option linter.unusedVariables false
namespace Go.Proofs.YtncmocmmkbmmjaaGreatDoor
open Go.RowKit Go.Shelf

theorem itoa_digit (n : Int) (h0 : 0 ≤ n) (h1 : n < 10) : Lib.itoa n = [UInt8.ofNat (48 + n.toNat)] := by
  unfold Lib.itoa
  rw [if_neg (by omega), Lib.decDigits, dif_pos (by omega)]

theorem kJoin : bySiteL max [3, 0, 2] [1, 5] = [3, 5, 2] := by decide
theorem kMeet : bySiteL min [3, 0, 2] [1, 5] = [1, 0, 0] := by decide
theorem kText1 : textL [3, 5, 2] = [91, 51, 32, 53, 32, 50, 93] := by
  have : writtenL [3, 5, 2] = 3 := by decide
  simp [textL, this, numsTo, itoa_digit]
theorem kText2 : textL [1, 0, 0] = [91, 49, 93] := by
  have : writtenL [1, 0, 0] = 1 := by decide
  simp [textL, this, numsTo, itoa_digit]
theorem kText3 : textL [] = [91, 93] := by decide
theorem kWith : withL [1, 5] 3 7 = [1, 5, 0, 7] := by decide
theorem kText4 : textL [1, 5, 0, 7] = [91, 49, 32, 53, 32, 48, 32, 55, 93] := by
  have : writtenL [1, 5, 0, 7] = 4 := by decide
  simp [textL, this, numsTo, itoa_digit]
theorem kParse1 : parseL [91, 51, 32, 48, 32, 50, 93] = ([3, 0, 2], 0) := by decide +kernel
theorem kParse2 : parseL [91, 51, 32, 48, 93] = ([], 2) := by decide +kernel
theorem kPairs1 : (pairsTo [3, 0, 2] ([3, 0, 2] : List Int).length).map (·.1) = [0, 2] := by decide
theorem kPairs2 : (pairsTo [3, 0, 2] ([3, 0, 2] : List Int).length).map (·.2) = [3, 2] := by decide
theorem kSame : everyB eqB [3, 0, 2] [3, 0, 2] = true := by decide
theorem kCov1 : everyB covB [3, 5, 2] [3, 0, 2] = true := by decide
theorem kCov2 : everyB covB [3, 0, 2] [1, 5] = false := by decide
theorem kGet : geti [3, 0, 2] 9 = 0 := by decide
theorem kSum : ([3, 0, 2] : List Int).sum = 5 := by decide
theorem kCheck1 : checkL [3, 0, 2] 2 = 4 := by decide
theorem kCheck2 : checkL [3, 0, 2] 3 = 0 := by decide

theorem alloc_below (w : World) (o : Obj) : Below w.heap.size w (w.alloc o) := (Below.refl _ w).alloc (Nat.le_refl _) o
theorem lit_nums (w : World) (x y : Int) : IsNums .i64 (w.alloc (.cells #[.int .i64 x, .int .i64 y] 3)) (.slice (some ⟨w.heap.size, 0, none⟩) 2 2) [x, y] :=
  IsNums.of_row (base := 0) (World.ownsRow_lit (e := 3) (size := 1) w #[.int .i64 x, .int .i64 y] 2 (Nat.zero_le _) (by unfold maxLen; omega) rfl)

theorem small_inR {l : List Int} (h : ∀ x ∈ l, 0 ≤ x ∧ x ≤ 1048577) : InR l := fun x hx => by have := h x hx; omega

end Go.Proofs.YtncmocmmkbmmjaaGreatDoor

/- Plain laws on vectors as lists of numbers. Own work; no statement. -/
set_option linter.unusedSimpArgs false
set_option linter.unusedVariables false
namespace Go.Proofs.YtncmocmmkbmmjaaGreatDoor

theorem getD_out (l : List Int) (i : Nat) (h : l.length ≤ i) : l.getD i 0 = 0 := by
  rw [List.getD, List.getElem?_eq_none h]; rfl
theorem getD_in (l : List Int) (i : Nat) (h : i < l.length) : l.getD i 0 = l[i] := by
  rw [List.getD, List.getElem?_eq_getElem h]; rfl
theorem getD_mem (l : List Int) (i : Nat) (h : i < l.length) : l.getD i 0 ∈ l := by rw [getD_in l i h]; exact List.getElem_mem h

theorem every_iff {f : Int → Int → Bool} (h0 : f 0 0 = true) (a b : List Int) : everyB f a b = true ↔ ∀ i, f (a.getD i 0) (b.getD i 0) = true := by
  constructor
  · intro h i
    unfold everyB at h
    rw [List.all_eq_true] at h
    by_cases hi : i < max a.length b.length
    · exact h i (by simpa using hi)
    · rw [getD_out a i (by omega), getD_out b i (by omega)]; exact h0
  · intro h
    exact everyB_yes f a b (fun i _ => h i)
theorem cov_iff (a b : List Int) : everyB covB a b = true ↔ ∀ i, b.getD i 0 ≤ a.getD i 0 := by
  rw [every_iff (by decide)]; simp only [covB, decide_eq_true_eq]
theorem same_iff (a b : List Int) : everyB eqB a b = true ↔ ∀ i, a.getD i 0 = b.getD i 0 := by
  rw [every_iff (by decide)]; simp only [eqB, beq_iff_eq]
theorem site_get {f : Int → Int → Int} (h0 : f 0 0 = 0) (a b : List Int) (i : Nat) : (bySiteL f a b).getD i 0 = f (a.getD i 0) (b.getD i 0) := by
  by_cases hi : i < max a.length b.length
  · rw [getD_in _ i (by rw [bySiteL_length]; exact hi)]; simp [bySiteL]
  · rw [getD_out _ i (by rw [bySiteL_length]; omega), getD_out a i (by omega), getD_out b i (by omega), h0]
theorem join_get (a b : List Int) (i : Nat) : (bySiteL max a b).getD i 0 = max (a.getD i 0) (b.getD i 0) := site_get (by decide) a b i
theorem meet_get (a b : List Int) (i : Nat) : (bySiteL min a b).getD i 0 = min (a.getD i 0) (b.getD i 0) := site_get (by decide) a b i

theorem cov_join_l (x y : List Int) : everyB covB (bySiteL max x y) x = true := by rw [cov_iff]; intro i; rw [join_get]; omega
theorem cov_join_r (x y : List Int) : everyB covB (bySiteL max x y) y = true := by rw [cov_iff]; intro i; rw [join_get]; omega
theorem cov_meet_l (x y : List Int) : everyB covB x (bySiteL min x y) = true := by rw [cov_iff]; intro i; rw [meet_get]; omega
theorem cov_meet_r (x y : List Int) : everyB covB y (bySiteL min x y) = true := by rw [cov_iff]; intro i; rw [meet_get]; omega
theorem cov_lub {x y z : List Int} (h1 : everyB covB z x = true) (h2 : everyB covB z y = true) : everyB covB z (bySiteL max x y) = true := by
  rw [cov_iff] at *; intro i; rw [join_get]; have := h1 i; have := h2 i; omega
theorem cov_glb {x y z : List Int} (h1 : everyB covB x z = true) (h2 : everyB covB y z = true) : everyB covB (bySiteL min x y) z = true := by
  rw [cov_iff] at *; intro i; rw [meet_get]; have := h1 i; have := h2 i; omega
theorem join_assoc (x y z : List Int) : everyB eqB (bySiteL max x (bySiteL max y z)) (bySiteL max (bySiteL max x y) z) = true := by
  rw [same_iff]; intro i; rw [join_get, join_get, join_get, join_get]; omega
theorem same_cov (x y : List Int) : everyB eqB x y = (everyB covB x y && everyB covB y x) := by
  rw [Bool.eq_iff_iff, Bool.and_eq_true, same_iff, cov_iff, cov_iff]
  constructor
  · intro h; exact ⟨fun i => by have := h i; omega, fun i => by have := h i; omega⟩
  · intro h i; have := h.1 i; have := h.2 i; omega

/-- The first n numbers together. -/
def sumTo (f : Nat → Int) : Nat → Int
  | 0 => 0
  | n + 1 => sumTo f n + f n
theorem sumTo_congr {f g : Nat → Int} (h : ∀ i, f i = g i) : ∀ n, sumTo f n = sumTo g n
  | 0 => rfl
  | n + 1 => by simp only [sumTo]; rw [sumTo_congr h n, h n]
theorem sumTo_add (f g : Nat → Int) : ∀ n, sumTo f n + sumTo g n = sumTo (fun i => f i + g i) n
  | 0 => rfl
  | n + 1 => by simp only [sumTo]; rw [← sumTo_add f g n]; omega
theorem sumTo_take (l : List Int) : ∀ n, n ≤ l.length → sumTo (fun i => l.getD i 0) n = (l.take n).sum
  | 0, _ => by simp [sumTo]
  | n + 1, h => by
    rw [take_snoc_getD l n (by omega), List.sum_append, ← sumTo_take l n (by omega)]
    simp [sumTo]
theorem sumTo_more (l : List Int) (k : Nat) : sumTo (fun i => l.getD i 0) (l.length + k) = l.sum := by
  induction k with
  | zero => rw [Nat.add_zero, sumTo_take l _ (Nat.le_refl _), List.take_of_length_le (Nat.le_refl _)]
  | succ k ih => rw [← Nat.add_assoc, sumTo, ih, getD_out l _ (by omega)]; omega
theorem sum_eq (l : List Int) (n : Nat) (h : l.length ≤ n) : l.sum = sumTo (fun i => l.getD i 0) n := by
  have := sumTo_more l (n - l.length)
  rw [← this]
  congr 1
  omega
theorem sum_join_meet (x y : List Int) : (bySiteL max x y).sum + (bySiteL min x y).sum = x.sum + y.sum := by
  have n := max x.length y.length
  rw [sum_eq (bySiteL max x y) (max x.length y.length) (by rw [bySiteL_length]; exact Nat.le_refl _), sum_eq (bySiteL min x y) (max x.length y.length) (by rw [bySiteL_length]; exact Nat.le_refl _),
    sum_eq x (max x.length y.length) (by omega), sum_eq y (max x.length y.length) (by omega), sumTo_add, sumTo_add]
  exact sumTo_congr (fun i => by rw [join_get, meet_get]; omega) _

/-- All numbers between 0 and m. -/
def InB (m : Int) (l : List Int) : Prop := ∀ x ∈ l, 0 ≤ x ∧ x ≤ m
theorem InB.get {m : Int} {l : List Int} (h : InB m l) (hm : 0 ≤ m) (i : Nat) : 0 ≤ l.getD i 0 ∧ l.getD i 0 ≤ m := by
  by_cases hi : i < l.length
  · exact h _ (getD_mem l i hi)
  · rw [getD_out l i (by omega)]; exact ⟨Int.le_refl _, hm⟩
theorem InB.site {m : Int} {f : Int → Int → Int} (hf : ∀ a b, 0 ≤ a ∧ a ≤ m → 0 ≤ b ∧ b ≤ m → 0 ≤ f a b ∧ f a b ≤ m) {a b : List Int} (ha : InB m a) (hb : InB m b) (hm : 0 ≤ m) : InB m (bySiteL f a b) := by
  intro x hx
  simp only [bySiteL, List.mem_map] at hx
  obtain ⟨i, _, rfl⟩ := hx
  exact hf _ _ (ha.get hm i) (hb.get hm i)
theorem InB.join {m : Int} {a b : List Int} (ha : InB m a) (hb : InB m b) (hm : 0 ≤ m) : InB m (bySiteL max a b) := ha.site (fun x y h1 h2 => by omega) hb hm
theorem InB.meet {m : Int} {a b : List Int} (ha : InB m a) (hb : InB m b) (hm : 0 ≤ m) : InB m (bySiteL min a b) := ha.site (fun x y h1 h2 => by omega) hb hm
theorem InB.mono {m m' : Int} {l : List Int} (h : InB m l) (hm : m ≤ m') : InB m' l := fun x hx => by have := h x hx; omega
theorem InB.sum {m : Int} {l : List Int} (h : InB m l) : 0 ≤ l.sum ∧ l.sum ≤ m * l.length := by
  induction l with
  | nil => simp
  | cons x l ih =>
    have h1 := h x (by simp)
    have h2 := ih (fun y hy => h y (by simp [hy]))
    rw [List.sum_cons, List.length_cons, Int.natCast_add, Int.mul_add]
    omega

end Go.Proofs.YtncmocmmkbmmjaaGreatDoor

/- Plain laws on vectors in words: what is told is read again. Own work; no statement. -/
set_option linter.unusedSimpArgs false
set_option linter.unusedVariables false
namespace Go.Proofs.YtncmocmmkbmmjaaGreatDoor

theorem digit_val (d : Nat) (h : d < 10) : (UInt8.ofNat (48 + d)).toNat = 48 + d := by
  rw [UInt8.toNat_ofNat']; omega
theorem decDigits_all (u : Nat) : ∀ c ∈ Lib.decDigits u, digB c = true := by
  induction u using Nat.strongRecOn with
  | _ u ih =>
    rw [Lib.decDigits]
    split
    · intro c hc
      rw [List.mem_singleton] at hc
      subst hc
      unfold digB
      rw [digit_val u (by omega)]
      simp; omega
    · intro c hc
      rcases List.mem_append.1 hc with h | h
      · exact ih (u / 10) (by omega) c h
      · rw [List.mem_singleton] at h
        subst h
        unfold digB
        rw [digit_val (u % 10) (by omega)]
        simp; omega
theorem decDigits_ne (u : Nat) : Lib.decDigits u ≠ [] := by
  rw [Lib.decDigits]; split <;> simp
theorem decDigits_head (u : Nat) : u ≠ 0 → (Lib.decDigits u).head? ≠ some 48 := by
  induction u using Nat.strongRecOn with
  | _ u ih =>
    intro h0
    rw [Lib.decDigits]
    split
    · rename_i h
      intro e
      have e2 : UInt8.ofNat (48 + u) = 48 := by simpa using e
      have e3 := congrArg UInt8.toNat e2
      rw [digit_val u h] at e3
      have e4 : (48 : UInt8).toNat = 48 := rfl
      omega
    · have h1 := ih (u / 10) (by omega) (by omega)
      cases h : Lib.decDigits (u / 10) with
      | nil => exact absurd h (decDigits_ne _)
      | cons c r => rw [h] at h1; exact h1
theorem decOk_digits (u : Nat) : decOk (Lib.decDigits u) = true := by
  unfold decOk
  have h1 : (Lib.decDigits u).isEmpty = false := by
    cases h : Lib.decDigits u with
    | nil => exact absurd h (decDigits_ne u)
    | cons _ _ => rfl
  have h2 : (Lib.decDigits u).all digB = true := List.all_eq_true.2 (decDigits_all u)
  rw [h1, h2]
  by_cases h0 : u = 0
  · subst h0
    have : Lib.decDigits 0 = [48] := by rw [Lib.decDigits]; rfl
    rw [this]; rfl
  · have := decDigits_head u h0
    have h3 : ((Lib.decDigits u).head? == some 48) = false := by simpa using this
    rw [h3]; simp
theorem decTo_digits (u : Nat) : decTo (Lib.decDigits u) 0 = min (u : Int) 1048577 := by
  induction u using Nat.strongRecOn with
  | _ u ih =>
    rw [Lib.decDigits]
    split
    · rename_i h
      simp only [decTo]
      rw [digit_val u h]
      omega
    · rw [decTo_snoc, ih (u / 10) (by omega), digit_val (u % 10) (by omega)]
      omega
theorem itoa_nat (x : Int) (h : 0 ≤ x) : Lib.itoa x = Lib.decDigits x.toNat := by unfold Lib.itoa; rw [if_neg (by omega)]
theorem no_blank (u : Nat) : ∀ c ∈ Lib.decDigits u, c ≠ 32 := by
  intro c hc e
  have := decDigits_all u c hc
  subst e
  revert this
  decide

theorem splitL_word : ∀ (l : List UInt8), (∀ c ∈ l, c ≠ 32) → splitL l = [l]
  | [], _ => rfl
  | c :: r, h => by
    simp only [splitL]
    rw [if_neg (h c (by simp)), splitL_word r (fun d hd => h d (by simp [hd]))]
theorem splitL_append : ∀ (a b : List UInt8), splitL (a ++ 32 :: b) = splitL a ++ splitL b
  | [], b => by simp [splitL]
  | c :: r, b => by
    simp only [List.cons_append, splitL]
    rw [splitL_append r b]
    split
    · simp
    · cases h : splitL r with
      | nil => exact absurd h (splitL_ne r)
      | cons x xs => simp

/-- The numbers are such as a vector may have. -/
def InS (l : List Int) : Prop := ∀ x ∈ l, 0 ≤ x ∧ x ≤ 1048576
theorem getD_inS {l : List Int} (h : InS l) (k : Nat) : 0 ≤ l.getD k 0 ∧ l.getD k 0 ≤ 1048576 := by
  by_cases hk : k < l.length
  · exact h _ (getD_mem l k hk)
  · rw [getD_out l k (by omega)]; omega
def wordsTo (l : List Int) (k : Nat) : List (List UInt8) := (List.range k).map fun i => Lib.itoa (l.getD i 0)
theorem wordsTo_succ (l : List Int) (k : Nat) : wordsTo l (k + 1) = wordsTo l k ++ [Lib.itoa (l.getD k 0)] := by simp [wordsTo, List.range_succ]
theorem split_nums {l : List Int} (h : InS l) : ∀ k, splitL (numsTo l (k + 1)) = wordsTo l (k + 1)
  | 0 => by
    simp only [numsTo]
    rw [itoa_nat _ (getD_inS h 0).1]
    simp only [if_true, List.nil_append]
    rw [splitL_word _ (no_blank _), wordsTo_succ, itoa_nat _ (getD_inS h 0).1]
    rfl
  | k + 1 => by
    rw [numsTo, if_neg (by omega)]
    simp only [List.cons_append, List.nil_append]
    rw [splitL_append, split_nums h k, wordsTo_succ l (k + 1), itoa_nat _ (getD_inS h (k + 1)).1, splitL_word _ (no_blank _)]
theorem words_ok {l : List Int} (h : InS l) (k : Nat) : (wordsTo l k).all decOk = true := by
  rw [List.all_eq_true]
  intro x hx
  obtain ⟨i, -, rfl⟩ := List.mem_map.1 hx
  rw [itoa_nat _ (getD_inS h i).1]
  exact decOk_digits _
theorem dec_itoa {x : Int} (h0 : 0 ≤ x) (h1 : x ≤ 1048577) : decTo (Lib.itoa x) 0 = x := by
  rw [itoa_nat _ h0, decTo_digits]; omega
theorem st_words {l : List Int} (h : InS l) (h8 : l.length ≤ 8) : ∀ k, k < l.length → stOf (wordsTo l (k + 1)) = (l.take (k + 1), l.getD k 0, false)
  | 0, hk => by
    have hx := getD_inS h 0
    rw [wordsTo_succ, stOf_snoc, take_snoc_getD l 0 hk]
    simp only [wordsTo, List.range_zero, List.map_nil, stOf, List.foldl_nil, stepW, dec_itoa hx.1 (by omega : l.getD 0 0 ≤ 1048577)]
    rw [if_neg (by rintro (h | h); · omega
                   · simp at h)]
    simp
  | k + 1, hk => by
    have hx := getD_inS h (k + 1)
    rw [wordsTo_succ, stOf_snoc, st_words h h8 k (by omega), take_snoc_getD l (k + 1) hk]
    simp only [stepW, dec_itoa hx.1 (by omega : l.getD (k + 1) 0 ≤ 1048577)]
    rw [if_neg (by rw [List.length_take]; omega)]

theorem writtenL_last (l : List Int) : ∀ k, writtenL l = k + 1 → l.getD k 0 ≠ 0 := by
  obtain ⟨r, rfl⟩ : ∃ r : List Int, l = r.reverse := ⟨l.reverse, by simp⟩
  induction r with
  | nil => intro k h; simp [writtenL] at h
  | cons x r ih =>
    intro k h
    rw [List.reverse_cons] at h ⊢
    generalize r.reverse = l at ih h ⊢
    by_cases hx : x = 0
    · subst hx
      rw [writtenL_snoc_zero] at h
      have hl := writtenL_le l
      have := ih k h
      rw [List.getD, List.getElem?_append_left (by omega)]
      exact this
    · rw [writtenL_snoc l x hx] at h
      obtain rfl : k = l.length := by omega
      rw [List.getD, List.getElem?_append_right (Nat.le_refl _)]
      simpa using hx
theorem writtenL_past (l : List Int) : ∀ i, writtenL l ≤ i → l.getD i 0 = 0 := by
  obtain ⟨r, rfl⟩ : ∃ r : List Int, l = r.reverse := ⟨l.reverse, by simp⟩
  induction r with
  | nil => intro i _; exact getD_out [] i (by simp)
  | cons x r ih =>
    intro i h
    rw [List.reverse_cons] at h ⊢
    generalize r.reverse = l at ih h ⊢
    by_cases hx : x = 0
    · subst hx
      rw [writtenL_snoc_zero] at h
      by_cases hi : i < l.length
      · rw [List.getD, List.getElem?_append_left hi]; exact ih i h
      · rw [List.getD, List.getElem?_append_right (by omega)]
        by_cases h2 : i - l.length = 0
        · rw [h2]; rfl
        · rw [List.getElem?_eq_none (by simp; omega)]; rfl
    · rw [writtenL_snoc l x hx] at h
      exact getD_out _ i (by simp; omega)

theorem inner_text (x : List UInt8) : bracketB (91 :: (x ++ [93])) = true ∧ innerL (91 :: (x ++ [93])) = x := by
  have h1 : Lib.hasPrefix (91 :: (x ++ [93])) [91] = true := by simp [Lib.hasPrefix]
  have h2 : Lib.trimPrefix (91 :: (x ++ [93])) [91] = x ++ [93] := by unfold Lib.trimPrefix; rw [if_pos h1]; rfl
  have h3 : Lib.hasSuffix (x ++ [93]) [93] = true := by unfold Lib.hasSuffix; rw [List.isSuffixOf_iff_suffix]; exact List.suffix_append _ _
  refine ⟨by unfold bracketB; rw [h1, h2, h3]; rfl, ?_⟩
  unfold innerL
  rw [h2]
  unfold Lib.trimSuffix
  rw [if_pos h3]
  simp
theorem numsTo_ne (l : List Int) (h : InS l) (k : Nat) : numsTo l (k + 1) ≠ [] := by
  rw [numsTo, itoa_nat _ (getD_inS h k).1]
  intro e
  have := (List.append_eq_nil_iff.1 (List.append_eq_nil_iff.1 e).2).2
  exact decDigits_ne _ this
/-- What is told of a vector that may be is read again, down to its last number that is not 0. -/
theorem parse_text (l : List Int) (h : InS l) (h8 : l.length ≤ 8) : parseL (textL l) = (l.take (writtenL l), 0) := by
  obtain ⟨hb, hi⟩ := inner_text (numsTo l (writtenL l))
  have hle := writtenL_le l
  have hlast := writtenL_last l
  unfold parseL textL
  rw [hb, hi, if_pos rfl]
  cases hw : writtenL l with
  | zero => simp [numsTo]
  | succ k =>
    rw [if_neg (numsTo_ne l h k), split_nums h k]
    unfold parseN
    rw [words_ok h, if_pos rfl, st_words h h8 k (by omega)]
    rw [if_neg (hlast k hw), if_neg (by simp)]
theorem same_written (l : List Int) : everyB eqB l (l.take (writtenL l)) = true := by
  rw [same_iff]
  intro i
  by_cases hi : i < writtenL l
  · rw [List.getD, List.getD, List.getElem?_take, if_pos hi]
  · rw [writtenL_past l i (by omega), getD_out _ i (by rw [List.length_take]; omega)]
theorem check_ok (l : List Int) (h : InS l) (h8 : l.length ≤ 8) : checkL l 8 = 0 := by
  unfold checkL
  rw [if_neg (by omega), if_neg (by omega)]
  clear h8
  induction l with
  | nil => rfl
  | cons x r ih =>
    have := h x (by simp)
    simp only [checkN]
    rw [if_neg (by omega), if_neg (by omega)]
    exact ih (fun y hy => h y (by simp [hy]))
theorem inS_take (l : List Int) (h : InS l) (k : Nat) : InS (l.take k) := fun x hx => h x (List.mem_of_mem_take hx)

end Go.Proofs.YtncmocmmkbmmjaaGreatDoor

/- Plain laws on texts: what is read is told just so. Own work; no statement. -/
set_option linter.unusedSimpArgs false
set_option linter.unusedVariables false
namespace Go.Proofs.YtncmocmmkbmmjaaGreatDoor

/-- Digits' number, however great. -/
def valTo : List UInt8 → Int → Int
  | [], n => n
  | c :: r, n => valTo r (10 * n + ((c.toNat : Int) - 48))
theorem valTo_snoc : ∀ (l : List UInt8) (c : UInt8) (n : Int), valTo (l ++ [c]) n = 10 * valTo l n + ((c.toNat : Int) - 48)
  | [], _, _ => rfl
  | _ :: l, c, _ => valTo_snoc l c _
theorem dig_range {c : UInt8} (h : digB c = true) : 48 ≤ (c.toNat : Int) ∧ (c.toNat : Int) ≤ 57 := by
  simp only [digB, decide_eq_true_eq] at h
  omega
theorem valTo_ge : ∀ (l : List UInt8) (n : Int), (∀ c ∈ l, digB c = true) → 0 ≤ n → n ≤ valTo l n
  | [], n, _, _ => Int.le_refl _
  | c :: l, n, h, h0 => by
    have hc := dig_range (h c (by simp))
    have := valTo_ge l (10 * n + ((c.toNat : Int) - 48)) (fun d hd => h d (by simp [hd])) (by omega)
    simp only [valTo]
    omega
theorem valTo_app (a b : List UInt8) (n : Int) : valTo (a ++ b) n = valTo b (valTo a n) := by
  induction a generalizing n with
  | nil => rfl
  | cons c a ih => exact ih _
theorem decTo_val : ∀ (l : List UInt8) (n : Int), (∀ c ∈ l, digB c = true) → 0 ≤ n → decTo l (min n 1048577) = min (valTo l n) 1048577
  | [], n, _, _ => rfl
  | c :: l, n, h, h0 => by
    have hc := dig_range (h c (by simp))
    simp only [decTo, valTo]
    rw [← decTo_val l _ (fun d hd => h d (by simp [hd])) (by omega)]
    congr 1
    omega
theorem decOk_parts {l : List UInt8} (h : decOk l = true) : l ≠ [] ∧ (1 < l.length → l.head? ≠ some 48) ∧ ∀ c ∈ l, digB c = true := by
  unfold decOk at h
  simp only [Bool.and_eq_true, Bool.not_eq_true', List.all_eq_true] at h
  obtain ⟨⟨h1, h2⟩, h3⟩ := h
  refine ⟨by rintro rfl; simp at h1, fun hl e => ?_, h3⟩
  rw [e] at h2
  simp [hl] at h2
theorem decTo_ok {l : List UInt8} (h : decOk l = true) : decTo l 0 = min (valTo l 0) 1048577 := decTo_val l 0 (decOk_parts h).2.2 (Int.le_refl _)
theorem byte_digit (c : UInt8) (h : digB c = true) (d : Nat) (hd : ((c.toNat : Int) - 48) = d) : UInt8.ofNat (48 + d) = c := by
  have hc := dig_range h
  rw [show 48 + d = c.toNat by omega]
  simp
theorem digits_val (r : List UInt8) : decOk r.reverse = true → Lib.decDigits (valTo r.reverse 0).toNat = r.reverse := by
  induction r with
  | nil => intro h; exact absurd rfl (decOk_parts h).1
  | cons c r ih =>
    intro h
    rw [List.reverse_cons] at h ⊢
    obtain ⟨-, h2, h3⟩ := decOk_parts h
    have hc := h3 c (by simp)
    have hcr := dig_range hc
    obtain ⟨d, hd⟩ : ∃ d : Nat, ((c.toNat : Int) - 48) = d := ⟨((c.toNat : Int) - 48).toNat, by omega⟩
    have hb := byte_digit c hc d hd
    generalize r.reverse = y at *
    rw [valTo_snoc, hd]
    cases y with
    | nil =>
      simp only [valTo]
      rw [show (10 * (0 : Int) + (d : Int)).toNat = d by omega, Lib.decDigits, dif_pos (by omega), hb]
      rfl
    | cons x y =>
      have hx : x ≠ 48 := by
        intro e
        exact h2 (by simp) (by simp [e])
      have hxd := dig_range (h3 x (by simp))
      have hx1 : 1 ≤ (x.toNat : Int) - 48 := by
        have : x.toNat ≠ 48 := fun e => hx (UInt8.toNat_inj.1 e)
        omega
      have hy3 : ∀ c ∈ y, digB c = true := fun e he => h3 e (by simp [he])
      have hge := valTo_ge y (10 * 0 + ((x.toNat : Int) - 48)) hy3 (by omega)
      have hok : decOk (x :: y) = true := by
        unfold decOk
        have hall : (x :: y).all digB = true := List.all_eq_true.2 (fun e he => h3 e (List.mem_append_left _ he))
        rw [hall]
        have : ((x :: y).head? == some 48) = false := by simpa using hx
        rw [this]
        simp
      have hv := ih hok
      have e0 : valTo (x :: y) 0 = valTo y (10 * 0 + ((x.toNat : Int) - 48)) := rfl
      rw [← e0] at hge
      generalize valTo (x :: y) 0 = v at *
      obtain ⟨u, rfl⟩ := Int.eq_ofNat_of_zero_le (show 0 ≤ v by omega)
      rw [Int.toNat_natCast] at hv
      rw [show (10 * (u : Int) + (d : Int)).toNat = 10 * u + d by omega, Lib.decDigits, dif_neg (by omega), show (10 * u + d) / 10 = u by omega, show (10 * u + d) % 10 = d by omega, hv, hb]
theorem itoa_dec {x : List UInt8} (h : decOk x = true) (h1 : decTo x 0 ≤ 1048576) : Lib.itoa (decTo x 0) = x := by
  have e := decTo_ok h
  have h0 := valTo_ge x 0 (decOk_parts h).2.2 (Int.le_refl _)
  have e2 : decTo x 0 = valTo x 0 := by omega
  rw [e2, itoa_nat _ h0]
  have := digits_val x.reverse (by rw [List.reverse_reverse]; exact h)
  rwa [List.reverse_reverse] at this
theorem dec_nonneg {x : List UInt8} (h : decOk x = true) : 0 ≤ decTo x 0 := by
  have e := decTo_ok h
  have h0 := valTo_ge x 0 (decOk_parts h).2.2 (Int.le_refl _)
  omega
theorem dec_zero {x : List UInt8} (h : decOk x = true) : decTo x 0 = 0 ↔ x = [48] := by
  constructor
  · intro h0
    have := itoa_dec h (by omega)
    rw [h0] at this
    rw [← this, itoa_digit 0 (by omega) (by omega)]
    rfl
  · rintro rfl
    rfl

def joinW : List (List UInt8) → List UInt8
  | [] => []
  | [x] => x
  | x :: y :: r => x ++ 32 :: joinW (y :: r)
theorem join_split : ∀ (s : List UInt8), joinW (splitL s) = s
  | [] => rfl
  | c :: r => by
    have ih := join_split r
    simp only [splitL]
    split
    · rename_i h
      cases hr : splitL r with
      | nil => exact absurd hr (splitL_ne r)
      | cons y ys => rw [hr] at ih; rw [joinW, ih, h]; rfl
    · cases hr : splitL r with
      | nil => exact absurd hr (splitL_ne r)
      | cons y ys =>
        rw [hr] at ih
        cases ys with
        | nil => simp only [joinW] at ih ⊢; rw [ih]
        | cons z zs => simp only [joinW] at ih ⊢; rw [← ih]; rfl
theorem splitL_inj {a b : List UInt8} (h : splitL a = splitL b) : a = b := by rw [← join_split a, ← join_split b, h]

theorem st_len (r : List (List UInt8)) : (stOf r.reverse).1.length ≤ r.length := by
  induction r with
  | nil => exact Nat.le_refl _
  | cons x r ih =>
    rw [List.reverse_cons, stOf_snoc]
    unfold stepW
    split
    · simp; omega
    · simp; omega
theorem st_good (r : List (List UInt8)) : (stOf r.reverse).2.2 = false → (stOf r.reverse).1 = r.reverse.map (decTo · 0) ∧ r.length ≤ 8 ∧ ∀ x ∈ r, decTo x 0 ≤ 1048576 := by
  induction r with
  | nil => intro _; exact ⟨rfl, by simp, fun x hx => by cases hx⟩
  | cons x r ih =>
    rw [List.reverse_cons, stOf_snoc]
    unfold stepW
    split
    · intro h; cases h
    · rename_i hc
      intro h
      obtain ⟨h1, h2, h3⟩ := ih h
      have hl : r.length = (stOf r.reverse).1.length := by rw [h1]; simp
      have h8 := stOf_len r.reverse
      refine ⟨by simp only; rw [h1, List.map_append]; rfl, by simp only [List.length_cons]; omega, fun y hy => ?_⟩
      rcases List.mem_cons.1 hy with rfl | hy
      · omega
      · exact h3 y hy
theorem st_bad (r : List (List UInt8)) : (stOf r.reverse).2.2 = true → 8 < r.length ∨ ∃ x ∈ r, 1048576 < decTo x 0 := by
  induction r with
  | nil => intro h; cases h
  | cons x r ih =>
    rw [List.reverse_cons, stOf_snoc]
    unfold stepW
    split
    · rename_i hc
      intro _
      rcases hc with hc | hc
      · exact .inr ⟨x, by simp, hc⟩
      · have := st_len r
        exact .inl (by simp only [List.length_cons]; omega)
    · intro h
      rcases ih h with h | ⟨y, hy, h⟩
      · exact .inl (by simp only [List.length_cons]; omega)
      · exact .inr ⟨y, by simp [hy], h⟩
theorem st_last (ws : List (List UInt8)) (x : List UInt8) : (stOf (ws ++ [x])).2.1 = decTo x 0 := by
  rw [stOf_snoc]
  unfold stepW
  split <;> rfl

/-- Words read one after the other, as the reference reads them. -/
def refN (ws : List (List UInt8)) : List Int × Int :=
  if ws.all decOk then (if ws.getLast? = some [48] then ([], 2) else if 8 < ws.length then ([], 4) else if ws.all (fun x => decide (decTo x 0 ≤ 1048576)) then (ws.map (decTo · 0), 0) else ([], 4)) else ([], 2)
theorem parseN_ref (ws : List (List UInt8)) (hne : ws ≠ []) : parseN ws = refN ws := by
  unfold parseN refN
  cases hall : ws.all decOk with
  | false => simp
  | true =>
    rw [if_pos rfl, if_pos rfl]
    obtain ⟨r, rfl⟩ : ∃ r, ws = r.reverse := ⟨ws.reverse, by simp⟩
    cases r with
    | nil => exact absurd rfl hne
    | cons x r =>
      have hx : decOk x = true := List.all_eq_true.1 hall x (by simp)
      have hlast : (stOf (x :: r).reverse).2.1 = decTo x 0 := by rw [List.reverse_cons]; exact st_last _ x
      have hgl : (x :: r).reverse.getLast? = some x := by simp
      rw [hlast, hgl]
      by_cases h0 : decTo x 0 = 0
      · rw [if_pos h0, if_pos (by rw [(dec_zero hx).1 h0])]
      · have hng : ¬ (some x = some [48]) := fun e => h0 ((dec_zero hx).2 (Option.some.inj e))
        rw [if_neg h0, if_neg hng]
        cases hlong : (stOf (x :: r).reverse).2.2 with
        | false =>
          obtain ⟨h1, h2, h3⟩ := st_good (x :: r) hlong
          rw [if_neg (show ¬ (false = true) by simp), if_neg (show ¬ (8 < (x :: r).reverse.length) by rw [List.length_reverse]; omega), if_pos (List.all_eq_true.2 (fun y hy => decide_eq_true (h3 y (List.mem_reverse.1 hy)))), h1]
        | true =>
          rw [if_pos (show true = true from rfl)]
          by_cases h8 : 8 < (x :: r).reverse.length
          · rw [if_pos h8]
          · rw [if_neg h8]
            rcases st_bad (x :: r) hlong with h | ⟨y, hy, h⟩
            · rw [List.length_reverse] at h8; exact absurd h h8
            · rw [if_neg]
              intro e
              have := of_decide_eq_true (List.all_eq_true.1 e y (List.mem_reverse.2 hy))
              omega

theorem writtenL_full (l : List Int) (k : Nat) (hl : l.length = k + 1) (h : l.getD k 0 ≠ 0) : writtenL l = k + 1 := by
  have e : l = l.take k ++ [l.getD k 0] := by rw [← take_snoc_getD l k (by omega), List.take_of_length_le (by omega)]
  rw [e, writtenL_snoc _ _ h, List.length_take]
  omega
theorem bracket_form {s : List UInt8} (h : bracketB s = true) : s = 91 :: (innerL s ++ [93]) := by
  unfold bracketB at h
  rw [Bool.and_eq_true] at h
  obtain ⟨h1, h2⟩ := h
  obtain ⟨t, rfl⟩ : ∃ t, s = 91 :: t := by
    unfold Lib.hasPrefix at h1
    rw [List.isPrefixOf_iff_prefix] at h1
    obtain ⟨t, ht⟩ := h1
    exact ⟨t, ht.symm⟩
  have e1 : Lib.trimPrefix (91 :: t) [91] = t := by unfold Lib.trimPrefix; rw [if_pos h1]; rfl
  rw [e1] at h2
  have h2' := h2
  unfold Lib.hasSuffix at h2
  rw [List.isSuffixOf_iff_suffix] at h2
  obtain ⟨u, rfl⟩ := h2
  exact (congrArg (fun z => (91 : UInt8) :: (z ++ [93])) (inner_text u).2).symm
/-- What is a vector is told just so. -/
theorem text_parse {s : List UInt8} (h : (parseL s).2 = 0) : textL (parseL s).1 = s := by
  unfold parseL at h ⊢
  by_cases hb : bracketB s = true
  · rw [if_pos hb] at h ⊢
    have hs := bracket_form hb
    by_cases hi : innerL s = []
    · rw [if_pos hi]
      rw [hi] at hs
      rw [hs]
      rfl
    · rw [if_neg hi] at h ⊢
      rw [parseN_ref _ (splitL_ne _)] at h ⊢
      obtain ⟨ws, hws⟩ : ∃ ws, splitL (innerL s) = ws := ⟨_, rfl⟩
      rw [hws] at h ⊢
      have hne : ws ≠ [] := by rw [← hws]; exact splitL_ne _
      unfold refN at h ⊢
      by_cases hall : ws.all decOk = true
      · rw [if_pos hall] at h ⊢
        by_cases hl : ws.getLast? = some [48]
        · rw [if_pos hl] at h; cases h
        · rw [if_neg hl] at h ⊢
          by_cases h8 : 8 < ws.length
          · rw [if_pos h8] at h; cases h
          · rw [if_neg h8] at h ⊢
            by_cases hle : ws.all (fun x => decide (decTo x 0 ≤ 1048576)) = true
            · rw [if_pos hle]
              have hok : ∀ x ∈ ws, decOk x = true := List.all_eq_true.1 hall
              have hsm : ∀ x ∈ ws, decTo x 0 ≤ 1048576 := fun x hx => of_decide_eq_true (List.all_eq_true.1 hle x hx)
              obtain ⟨k, hk⟩ : ∃ k, ws.length = k + 1 := ⟨ws.length - 1, by have := List.length_pos_iff.2 hne; omega⟩
              have hS : InS (ws.map (decTo · 0)) := by
                intro y hy
                obtain ⟨x, hx, rfl⟩ := List.mem_map.1 hy
                exact ⟨dec_nonneg (hok x hx), hsm x hx⟩
              have hgd : ∀ i (hi : i < ws.length), (ws.map (decTo · 0)).getD i 0 = decTo ws[i] 0 := by
                intro i hi
                rw [getD_in _ i (by simpa using hi)]; simp
              have hw : wordsTo (ws.map (decTo · 0)) (k + 1) = ws := by
                unfold wordsTo
                apply List.ext_getElem
                · simp [hk]
                · intro i h1 h2
                  simp only [List.getElem_map, List.getElem_range]
                  rw [hgd i h2, itoa_dec (hok _ (List.getElem_mem h2)) (hsm _ (List.getElem_mem h2))]
              have hn : numsTo (ws.map (decTo · 0)) (k + 1) = innerL s := splitL_inj (by rw [split_nums hS k, hw, hws])
              have hlast : (ws.map (decTo · 0)).getD k 0 ≠ 0 := by
                rw [hgd k (by omega)]
                intro e
                apply hl
                rw [List.getLast?_eq_getElem?, hk, Nat.add_sub_cancel, List.getElem?_eq_getElem (by omega), (dec_zero (hok _ (List.getElem_mem (by omega)))).1 e]
              unfold textL
              rw [writtenL_full _ k (by simp [hk]) hlast, hn]
              exact hs.symm
            · rw [if_neg hle] at h; cases h
      · rw [if_neg hall] at h; cases h
  · rw [if_neg hb] at h; cases h

end Go.Proofs.YtncmocmmkbmmjaaGreatDoor
