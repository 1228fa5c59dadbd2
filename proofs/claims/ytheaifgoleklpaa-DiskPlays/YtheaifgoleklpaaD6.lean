/- The laws' Lines, SameLines over disks' lines. Own work; no statement. -/
import Derived.Test.YtheaifgoleklpaaD5
import Derived.Maps.OwnIn
set_option linter.unusedSimpArgs false
set_option linter.unusedVariables false
namespace Go.Proofs.Ytheaifgoleklpaa
open Go.RowKit Go.Shelf

attribute [local go_sem] Oper.semAt_some

/-- 'x = append(x, y)' by way of x's box. -/
theorem boxApp {W w1 : World} {b n₀ : Nat} {T e : TypeId} {v v1 : Value} {n m : Nat} {xs ys : List Value} {o : Obj} (hbx : Boxed W b T v) (hrow : W.ownsRow n₀ e 1 v n xs) (hb : b < n₀) (hn : n₀ ≤ W.heap.size)
    (hown1 : w1.ownsRow n₀ e 1 v1 m ys) (hgrow : (W.alloc o).grownBy w1 v.ownBlock) :
    Boxed w1 b T v ∧ Boxed (w1.setCell ⟨b, 0, none⟩ v1) b T v1 ∧ (w1.setCell ⟨b, 0, none⟩ v1).ownsRow n₀ e 1 v1 m ys ∧ KeepsOthers W (w1.setCell ⟨b, 0, none⟩ v1) ∧
      (∀ k, k < W.heap.size → k ≠ b → v.ownBlock ≠ some k → (w1.setCell ⟨b, 0, none⟩ v1).heap[k]? = W.heap[k]?) ∧ (∀ B w, B ≤ b → Below B w W → Below B w (w1.setCell ⟨b, 0, none⟩ v1)) := by
  have hne : some b ≠ v.ownBlock := fun e' => by have := (hrow.lt b e'.symm).1; omega
  have hv1 : Boxed w1 b T v := (hbx.alloc o).kept hgrow hne
  refine ⟨hv1, hv1.set v1, ownsRow_of_heap hown1 (fun k hk => Below.heap_setCell _ _ _ _ (fun e' => by have := (hown1.lt k hk).1; have e2 : k = b := e'; omega)), ?_, ?_, ?_⟩
  · refine ((KeepsOthers.alloc W o).trans (KeepsOthers.of_grownBy hgrow fun j o' ej hj => ?_)).trans (KeepsOthers.setCell _ _ _)
    rcases (hrow.alloc o).2 with ⟨rfl, _⟩ | ⟨g, cap, cur, rfl, _, hgb, _⟩
    · simp [Value.ownBlock] at ej
    · obtain rfl : g = j := by simpa [Value.ownBlock] using ej
      rw [hgb] at hj; cases hj; rfl
  · exact fun k hk hkB hkr => app_other hgrow k hk (fun e' => hkr e'.symm) hkB
  · intro B w hB h
    have := hbx.lt
    exact ((h.alloc (by omega) o).grown hgrow (by simp; omega) (fun j ej => by have := (hrow.lt j ej).1; omega)).setCell (p := ⟨b, 0, none⟩) hB v1

/-- Within the loop of Lines. -/
structure InLines (W : World) (s most : Nat) (l : List ByteArray) (k : Nat) (v : Value) : Prop where
  m : Boxed W s 3 (.int .i64 (most : Int))
  r1 : Boxed W (s + 1) 40 (.slice none 0 0)
  r2 : Boxed W (s + 2) 4 (.bool false)
  o : Boxed W (s + 3) 40 v
  row : W.ownsRow (s + 4) 9 1 v k ((l.take k).map Value.string)

theorem InLines.own {X Y : World} {row : Option Nat} {s most : Nat} {l : List ByteArray} {k : Nat} {v : Value} (h : InLines X s most l k v) (hg : X.grownBy Y row) (hrow : ∀ r, row = some r → ∃ o : Obj, X.heap[r]? = some o ∧ o.isCells = false) : InLines Y s most l k v :=
  ⟨boxed_own' hg hrow h.m, boxed_own' hg hrow h.r1, boxed_own' hg hrow h.r2, boxed_own' hg hrow h.o, ownsRow_own' hg hrow h.row⟩

set_option maxRecDepth 100000 in
set_option maxHeartbeats 4000000 in
theorem lawLines3_calls (b most : Nat) (l : List ByteArray) (w : World) (hs : IsSeq w b l) (hl : l.length ≤ most) (hm : most ≤ 1048576) :
    Calls Try.prog 21 #[.func (.func 34) #[] #[.pointer (some ⟨b, 0, none⟩)], .int .i64 (most : Int)] w fun e w' => ∃ v, e = .returned (.tuple #[v, .bool true]) ∧ w'.ownsRow w.heap.size 9 1 v l.length (l.map Value.string) ∧ Below w.heap.size w w' := by
  have heq : ∀ (fn : Fn) (first cap : Array Value) (w : World), (binOp .eql 44 (.func fn first cap) .nilFunc).run Try.prog w = .ok (.bool false) w := fun _ _ _ _ => by kernel_rfl
  obtain ⟨i0, hi, hz0, hz1, hz2⟩ := info_parts Try.info9
  obtain ⟨W4, hW4⟩ : ∃ W4, (((w.alloc (.cells #[.int .i64 (most : Int)] 3)).alloc (.cells #[.slice none 0 0] 40)).alloc (.cells #[.bool false] 4)).alloc (.cells #[.slice none 0 0] 40) = W4 := ⟨_, rfl⟩
  have HB4 : Below w.heap.size w W4 := by rw [← hW4]; exact ((((Below.refl _ w).alloc (Nat.le_refl _) _).alloc (by simp) _).alloc (by simp; omega) _).alloc (by simp; omega) _
  have hs4 : W4.heap.size = w.heap.size + 4 := by rw [← hW4]; simp
  have i4 : InLines W4 w.heap.size most l 0 (.slice none 0 0) := by
    refine ⟨?_, ?_, ?_, ?_, World.ownsRow_nil _ _ _ _⟩
    · rw [← hW4]; exact (((Boxed.new w _ _).alloc _).alloc _).alloc _
    · have := ((Boxed.new (w.alloc (.cells #[.int .i64 (most : Int)] 3)) 40 (.slice none 0 0)).alloc (.cells #[.bool false] 4)).alloc (.cells #[.slice none 0 0] 40)
      rw [hW4, World.size_alloc] at this
      exact this
    · have := (Boxed.new ((w.alloc (.cells #[.int .i64 (most : Int)] 3)).alloc (.cells #[.slice none 0 0] 40)) 4 (.bool false)).alloc (.cells #[.slice none 0 0] 40)
      rw [hW4, World.size_alloc, World.size_alloc] at this
      exact this
    · have := Boxed.new (((w.alloc (.cells #[.int .i64 (most : Int)] 3)).alloc (.cells #[.slice none 0 0] 40)).alloc (.cells #[.bool false] 4)) 40 (.slice none 0 0)
      rw [hW4, World.size_alloc, World.size_alloc, World.size_alloc] at this
      exact this
  obtain ⟨vs, gs, hbox, hvs, hrow⟩ := hs.below HB4
  have hin : ∀ k, onDisk b gs k → k < W4.heap.size := fun k hk => by
    rcases hk with rfl | e
    · exact ltAt hbox
    · exact (hrow.lt k (hvs.trans e)).2
  have hin' : ∀ k, onDisk b gs k → k < w.heap.size := by
    obtain ⟨vs', gs', hbox', hvs', hrow'⟩ := hs
    have e1 : vs = vs' := by
      have h1 := (HB4.block b (ltAt hbox')).trans hbox'
      rw [h1] at hbox
      simp at hbox
      exact hbox.symm
    subst e1
    intro k hk
    rcases hk with rfl | e
    · exact ltAt hbox'
    · exact (hrow'.lt k (hvs.trans e)).2
  have Hin := hide hin'
  have HW := hide hW4
  clear hW4 hs
  refine (callsIn_wide (n := 5)).1 ?_
  refine callsIn_of_wp_marks Try.func21 rfl trivial ?_ rfl
  simp only [Try.ntmps21, List.size_toArray, List.length_cons, List.length_nil, Nat.reduceAdd, Nat.reduceSub, Array.replicate_succ, Array.replicate_zero, List.push_toArray, List.append_toArray, List.nil_append, List.cons_append]
  gi_wp2_with fail
  rw [HW.out]
  simp only [Nat.add_assoc, Nat.reduceAdd]
  refine range_lawL (by decide) (gf := 34) (lb := #[.pointer (some ⟨b, 0, none⟩)]) rfl (enters_of Try.func34 (by kernel_rfl) rfl)
    (lines_seq 4 (by decide) b vs gs l (by omega) W4 hbox hvs hrow) keepsSeq_t (keepsSeq_b fun k hk => hin k hk) (fun _ => rfl)
    (fun k W => (∃ v, InLines W w.heap.size most l k v) ∧ Below w.heap.size w W)
    (fun _ _ _ => False)
    (OwnFrom.and (Own.from (fun k X Y row hs hg hr => let ⟨v, h⟩ := hs; ⟨v, h.own hg hr⟩) _) (ownFrom_below (Nat.le_refl _) (by omega)))
    (fun _ _ _ _ _ hs _ _ => hs)
    ⟨⟨_, i4⟩, HB4⟩
    (fun x => { tmps := #[.func (.func 34) #[] #[.pointer (some ⟨b, 0, none⟩)], .int .i64 (most : Int), undef, .pointer (some ⟨w.heap.size, 0, none⟩), .pointer (some ⟨w.heap.size + 1, 0, none⟩), .pointer (some ⟨w.heap.size + 2, 0, none⟩), .pointer (some ⟨w.heap.size + 3, 0, none⟩), .int .i64 (x.1 : Int), .string x.2, .func (.func 34) #[] #[.pointer (some ⟨b, 0, none⟩)], .bool false, .func (.func 34) #[] #[.pointer (some ⟨b, 0, none⟩)], .int .i64 (x.1 : Int), .string x.2, undef, undef, undef, undef, undef, undef, undef, undef, undef, undef, undef, undef, undef, undef, undef, undef], defers := [] }) ?assign ?body ?done ?stop
  case assign =>
    intro l x W K hK
    clear i4 hbox hrow
    dsimp only [encLine]
    gi_wp2
    exact hK
  case body =>
    clear i4 hbox hrow hin
    rintro lp k hk W ⟨⟨v, h⟩, hB⟩
    rw [placed_get]
    have hk' : k < l.length := by rw [placed_length] at hk; exact hk
    obtain ⟨s, hs⟩ : ∃ s, l[k] = s := ⟨_, rfl⟩
    rw [hs]
    obtain ⟨a, cap, rfl⟩ := ownsRow_slice h.row
    have c0 := h.m.cell
    have c3 := h.o.cell
    have hkm : (k : Int) < (most : Int) := by omega
    have hW4 := h.o.lt
    have H := hide h
    have HB := hide hB
    have Hs := hide hs
    clear h hB hs
    gi_wp2_with (gi_at_builtin; refine wpListIn_append_own_at _ rfl (.tmp 25) _ 40 rfl (w.heap.size + 4) 9 i0 _ 1 16 Try.underlying40 hi hz0 hz1 hz2 rfl (by decide) _ _ _ rfl (World.ownsRow.alloc H.out.row _) ⟨_, 0, none⟩ 1 1 [.string s] rfl rfl (cell_one_at (by simp)) (by intro u hu; simp at hu; subst hu; rfl) (by unfold maxLen; omega) (by omega) (by simp; omega) ?_; intro v1 w1 hown1 hgrow1 _ hat1; obtain ⟨bx1, bx2, row2, k1, o1, l1⟩ := boxApp H.out.o H.out.row (by omega) (by omega) hown1 hgrow1; have d1 := bx1.cell; have f1 := bx1.frozen; obtain ⟨ga, cap1, rfl⟩ := ownsRow_slice hown1; have K1 := hide k1; have O1 := hide o1; have L1 := hide l1; have R2 := hide row2; have B2 := hide bx2; clear hgrow1 hat1 hown1 k1 o1 l1 row2 bx1 bx2)
    have ho : ∀ j, j < w.heap.size + 3 → j < W.heap.size → (w1.setCell ⟨w.heap.size + 3, 0, none⟩ (.slice ga (k + 1) cap1)).heap[j]? = W.heap[j]? := fun j hj hj2 => O1.out j hj2 (by omega) (fun e => by have := (H.out.row.lt j e).1; omega)
    refine ⟨K1.out.from _, fun j hj => ho j (by have := Hin.out j hj; omega) (by have := Hin.out j hj; omega), ⟨_, ⟨boxed_of_heap H.out.m (ho _ (by omega) (by omega)), boxed_of_heap H.out.r1 (ho _ (by omega) (by omega)), boxed_of_heap H.out.r2 (ho _ (by omega) (by omega)), B2.out, ?_⟩⟩, L1.out _ _ (by omega) HB.out⟩
    have e1 : (l.take (k + 1)).map Value.string = (l.take k).map Value.string ++ [.string s] := by
      rw [List.take_add_one, List.getElem?_eq_getElem hk', Hs.out]
      simp
    rw [e1]
    exact R2.out
  case done =>
    clear i4 hbox hrow hin
    rintro Dd W hD ⟨⟨v, h⟩, hB⟩ hK
    rw [placed_length] at h
    have hrow := h.row
    rw [List.take_of_length_le (Nat.le_refl _)] at hrow
    obtain ⟨a, cap, rfl⟩ := ownsRow_slice hrow
    have c1 := h.r1.cell
    have c2 := h.r2.cell
    have c3 := h.o.cell
    have f1 := h.r1.frozen
    have f2 := h.r2.frozen
    have H := hide h
    have HB := hide hB
    have R := hide hrow
    clear h hB hrow
    gi_wp2_with fail
    obtain ⟨W3, hW3⟩ : ∃ W3, (W.setCell ⟨w.heap.size + 1, 0, none⟩ (.slice a l.length cap)).setCell ⟨w.heap.size + 2, 0, none⟩ (.bool true) = W3 := ⟨_, rfl⟩
    have hoth : ∀ k, k ≠ w.heap.size + 1 → k ≠ w.heap.size + 2 → W3.heap[k]? = W.heap[k]? := fun k h1 h2 => by rw [← hW3]; exact (Below.heap_setCell _ _ _ _ h2).trans (Below.heap_setCell _ _ _ _ h1)
    have hK3 : W3.heap[Dd]? = some (.deferred (some [])) := (hoth Dd (by omega) (by omega)).trans hK
    have R1 : Boxed W3 (w.heap.size + 1) 40 (.slice a l.length cap) := by rw [← hW3]; exact boxed_of_heap (H.out.r1.set _) (Below.heap_setCell _ _ _ _ (show w.heap.size + 1 ≠ w.heap.size + 2 by omega))
    have R2 : Boxed W3 (w.heap.size + 2) 4 (.bool true) := by rw [← hW3]; exact (boxed_of_heap H.out.r2 (Below.heap_setCell _ _ _ _ (show w.heap.size + 2 ≠ w.heap.size + 1 by omega))).set _
    have R3 : W3.ownsRow w.heap.size 9 1 (.slice a l.length cap) l.length (l.map Value.string) := ownsRow_low (ownsRow_of_heap R.out fun k e => by have := (R.out.lt k e).1; exact hoth k (by omega) (by omega)) (by omega)
    have B3 : Below w.heap.size w W3 := by rw [← hW3]; exact (HB.out.setCell (p := ⟨w.heap.size + 1, 0, none⟩) (by simp) _).setCell (p := ⟨w.heap.size + 2, 0, none⟩) (by simp) _
    rw [hW3]
    clear hoth hW3 c1 c2 c3 f1 f2 hK heq
    have hg := grownBy_putObj' W3 Dd (.deferred none)
    have hr : ∀ r, some Dd = some r → ∃ o : Obj, W3.heap[r]? = some o ∧ o.isCells = false := fun r e => by cases e; exact ⟨_, hK3, rfl⟩
    have Q1 := (boxed_own' hg hr R1).cell
    have Q2 := (boxed_own' hg hr R2).cell
    refine ⟨by simp, .inl ⟨_, _, rfl, run_takeDeferred hK3, ?_⟩⟩
    refine ⟨.tuple #[.slice a l.length cap, .bool true], by simp [results, Try.f21, go_sem, Q1, Q2], _, rfl, ownsRow_own' hg hr R3, ?_⟩
    exact B3.trans (belowK_b (w := w) (Nat.le_refl _) W3 Dd _ _ (by omega) hK3 rfl rfl)
  case stop =>
    rintro D c k W _ _ h _
    exact h.elim

/-- In the world w the slice v reads as the texts l. -/
def IsStrs (w : World) (v : Value) (l : List ByteArray) : Prop :=
  ∃ a cap, v = .slice a l.length cap ∧ l.length ≤ cap ∧ ∀ t (_ : t < l.length), ∃ b o, a = some ⟨b, o, none⟩ ∧ w.cell? ⟨b, o + t, none⟩ = some (.string l[t])

theorem IsStrs.of_row {w : World} {B : Nat} {e : TypeId} {v : Value} {l : List ByteArray} (h : w.ownsRow B e 1 v l.length (l.map Value.string)) : IsStrs w v l := by
  obtain ⟨a, cap, rfl⟩ := ownsRow_slice h
  refine ⟨a, cap, rfl, ?_, fun t ht => let ⟨b, e, hc⟩ := strs_cell h t ht; ⟨b, 0, e, by rw [Nat.zero_add]; exact hc⟩⟩
  rcases h.2 with ⟨h0, h1⟩ | ⟨g', cap', cur, h0, _, _, h1, _⟩ <;> (simp only [Value.slice.injEq] at h0; omega)
theorem IsStrs.below {w w' : World} {v : Value} {l : List ByteArray} (h : IsStrs w v l) (hb : Below w.heap.size w w') : IsStrs w' v l := by
  obtain ⟨a, cap, rfl, hcap, h⟩ := h
  exact ⟨a, cap, rfl, hcap, fun t ht => let ⟨b, o, e, hc⟩ := h t ht; ⟨b, o, e, (hb.cell (p := ⟨b, o + t, none⟩) (World.block_lt_of_cell? w _ hc)).trans hc⟩⟩

theorem strNe {a b : ByteArray} (h : ¬ a = b) : (a.toList == b.toList) = false := by
  rw [beq_eq_false_iff_ne, Lib.toList_data, Lib.toList_data]
  intro e
  exact h (ByteArray.ext (Array.toList_inj.1 e))

theorem take_grow {l m : List ByteArray} {k : Nat} (h : l.take k = m.take k) (hl : k < l.length) (hm : k < m.length) (e : l[k] = m[k]) : l.take (k + 1) = m.take (k + 1) := by
  rw [List.take_add_one, List.take_add_one, h, List.getElem?_eq_getElem hl, List.getElem?_eq_getElem hm, e]

set_option maxHeartbeats 2000000 in
theorem sameLines3_calls (v v' : Value) (l m : List ByteArray) (w : World) (hv : IsStrs w v l) (hv' : IsStrs w v' m) (hl : l.length ≤ 1048576) (hm : m.length ≤ 1048576) :
    Calls Try.prog 23 #[v, v'] w fun e w' => e = .returned (.bool (decide (l = m))) ∧ ∃ n, w' = w.drewN n := by
  obtain ⟨a, cap, rfl, -, ha⟩ := hv
  obtain ⟨a', cap', rfl, -, ha'⟩ := hv'
  have Ha := hide ha
  have Ha' := hide ha'
  clear ha ha'
  by_cases hlen : l.length = m.length
  · have hb : ((l.length : Int) != (m.length : Int)) = false := by simp [hlen]
    have hl1 : l.length ≤ m.length := by omega
    have hl2 : m.length ≤ l.length := by omega
    clear hlen
    go_enter Try.func23, Try.ntmps23
    go_wp2
    go_loopw [5] (fun i wr => ∃ (k n : Nat), i = .int .i64 (k : Int) ∧ k ≤ l.length ∧ l.take k = m.take k ∧ wr = w.drewN n) (fun i _ => l.length - (intOf i).toNat)
    case atStart => exact ⟨0, 0, rfl, Nat.zero_le _, by simp, rfl⟩
    case round =>
      obtain ⟨k, n, rfl, hk, ht, rfl⟩ := hrel
      have Ht := hide ht
      clear ht
      by_cases hlt : k < l.length
      · have hltI : (k : Int) < (l.length : Int) := by omega
        have hltI' : (k : Int) < (m.length : Int) := by omega
        obtain ⟨b, o, rfl, c1⟩ := Ha.out k hlt
        obtain ⟨b', o', rfl, c2⟩ := Ha'.out k (by omega)
        have d1 : (w.drewN n).cell? ⟨b, o + k, none⟩ = _ := c1
        have d2 : (w.drewN n).cell? ⟨b', o' + k, none⟩ = _ := c2
        have hm' : k < m.length := by omega
        have hgrow : Hid (l[k] = m[k] → l.take (k + 1) = m.take (k + 1)) := fun e => take_grow Ht.out hlt hm' e
        have hbad : Hid (¬ l[k] = m[k] → ¬ l = m) := fun h e => h (by subst e; rfl)
        generalize l[k] = x at *
        generalize m[k] = y at *
        by_cases hxy : x = y
        · subst hxy
          go_wp2
          go_quiet (fail)
          go_wp2
          exact ⟨⟨k + 1, n + nq, by go_num, by omega, hgrow.out (by first | rfl | trivial), rfl⟩, by simp [intOf]; omega⟩
        · have hne := strNe hxy
          go_wp2
          go_quiet (fail)
          go_wp2
          go_ret
          exact ⟨congrArg (fun b => Ending.returned (.bool b)) (decide_eq_false (hbad.out hxy)).symm, n + nq, World.drewN_drewN _ _ _⟩
      · have e : k = l.length := by omega
        subst e
        go_wp2
        go_ret
        have := Ht.out
        rw [List.take_of_length_le (Nat.le_refl _), List.take_of_length_le (by omega)] at this
        exact ⟨congrArg (fun b => Ending.returned (.bool b)) (decide_eq_true this).symm, n, rfl⟩
  · have hb : ((l.length : Int) != (m.length : Int)) = true := by simp; omega
    have hne : ¬ l = m := fun e => hlen (by rw [e])
    rw [decide_eq_false hne]
    clear hne
    go_enter Try.func23, Try.ntmps23
    go_wp2
    go_ret
    exact ⟨rfl, 0, rfl⟩

end Go.Proofs.Ytheaifgoleklpaa
