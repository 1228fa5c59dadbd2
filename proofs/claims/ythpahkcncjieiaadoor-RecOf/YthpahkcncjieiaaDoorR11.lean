/- The laws' Rows: what a range over numbers and records tells. Own work; no statement. -/
import Derived.Test.YthpahkcncjieiaaDoorR10
import Derived.Maps.OwnIn
set_option linter.unusedSimpArgs false
set_option linter.unusedVariables false
namespace Go.Proofs.YthpahkcncjieiaaDoor
open Go.RowKit Go.Shelf Go.Sort

attribute [local go_sem] Oper.semAt_some

theorem Tryd.info30 : (Tryd.prog.info? 30).map (fun i => (i.zero, i.size, i.bytes)) = some (some (.agg #[.int .i64 0, .int .i64 0, .slice none 0 0, .string ⟨#[]⟩, .string ⟨#[]⟩]), 5, 72) := by kernel_rfl

theorem size_set (W : World) (a : Addr) (v : Value) : (W.setCell a v).heap.size = W.heap.size := by simp [World.setCell]
/-- 'x = append(x, ..)' by way of x's box B, the rows all beyond the boxes. -/
theorem box_app {W w1 : World} {B n₀ : Nat} {T e : TypeId} {size : Nat} {v v1 : Value} {n m : Nat} {xs ys : List Value} {o : Obj} (hbx : Boxed W B T v) (hrow : W.ownsRow n₀ e size v n xs) (hB : B < n₀) (hn : n₀ ≤ W.heap.size)
    (hown1 : w1.ownsRow n₀ e size v1 m ys) (hgrow : (W.alloc o).grownBy w1 v.ownBlock) :
    Boxed w1 B T v ∧ Boxed (w1.setCell ⟨B, 0, none⟩ v1) B T v1 ∧ (w1.setCell ⟨B, 0, none⟩ v1).ownsRow n₀ e size v1 m ys ∧ KeepsOthers W (w1.setCell ⟨B, 0, none⟩ v1) ∧
      (∀ k, k < W.heap.size → k ≠ B → v.ownBlock ≠ some k → (w1.setCell ⟨B, 0, none⟩ v1).heap[k]? = W.heap[k]?) ∧ (∀ b w, b ≤ B → Below b w W → Below b w (w1.setCell ⟨B, 0, none⟩ v1)) := by
  have hne : some B ≠ v.ownBlock := fun e' => by have := (hrow.lt B e'.symm).1; omega
  have hv1 : Boxed w1 B T v := (hbx.alloc o).kept hgrow hne
  refine ⟨hv1, hv1.set v1, ownsRow_of_heap hown1 (fun k hk => Below.heap_setCell _ _ _ _ (fun e' => by have := (hown1.lt k hk).1; have e2 : k = B := e'; omega)), ?_, ?_, ?_⟩
  · refine ((KeepsOthers.alloc W o).trans (KeepsOthers.of_grownBy hgrow fun j o' ej hj => ?_)).trans (KeepsOthers.setCell _ _ _)
    rcases (hrow.alloc o).2 with ⟨rfl, _⟩ | ⟨g, cap, cur, rfl, _, hgb, _⟩
    · simp [Value.ownBlock] at ej
    · obtain rfl : g = j := by simpa [Value.ownBlock] using ej
      rw [hgb] at hj; cases hj; rfl
  · exact fun k hk hkB hkr => app_other hgrow k hk (fun e' => hkr e'.symm) hkB
  · intro b w hb h
    have := hbx.lt
    exact ((h.alloc (by omega) o).grown hgrow (by simp; omega) (fun j ej => by have := (hrow.lt j ej).1; omega)).setCell (p := ⟨B, 0, none⟩) hb v1

theorem keepsFrom_below {B : Nat} {A W : World} (h : Below A.heap.size A W) : KeepsFrom B A W := ⟨h.size, fun k o _ ho _ => keepB ho h⟩
theorem below_put {A W : World} {l : Nat} {o' : Obj} (h : Below A.heap.size A W) : Below (A.putObj l o').heap.size (A.putObj l o') (W.putObj l o') := by
  refine ⟨h.os, h.tape, h.output, by simpa [World.putObj] using h.size, fun k hk => ?_⟩
  have hk' : k < A.heap.size := by simpa [World.putObj] using hk
  have hs := h.size
  unfold World.putObj
  simp only [Array.getElem?_setIfInBounds]
  by_cases e : l = k
  · subst e
    rw [if_pos rfl, if_pos rfl, if_pos hk', if_pos (by omega)]
  · rw [if_neg e, if_neg e]
    exact h.block k hk'

def Pl.cells5 (p : Pl) : List Value := [.int .i64 p.r.site, .int .i64 p.r.seq, p.vd, .string p.r.key, .string p.r.val]

theorem five_one {p : Pl} {a : Option Addr} {n c : Nat} (h : p.vd = .slice a n c) : ∀ u ∈ p.cells5, u.oneCell' = true := by
  intro u hu
  simp only [Pl.cells5, h, List.mem_cons, List.not_mem_nil, or_false] at hu
  rcases hu with rfl | rfl | rfl | rfl | rfl <;> rfl

/-- What lies in the boxes of Rows, and in its rows. -/
structure InRows (o most : Nat) (la lb : List Pl) (W : World) (va vb : Value) : Prop where
  m : Boxed W o 3 (.int .i64 (most : Int))
  r1 : Boxed W (o + 1) 27 (.slice none 0 0)
  r2 : Boxed W (o + 2) 22 (.slice none 0 0)
  r3 : Boxed W (o + 3) 4 (.bool false)
  a : Boxed W (o + 4) 27 va
  b : Boxed W (o + 5) 22 vb
  ra : W.ownsRow (o + 6) 3 1 va la.length (la.map fun p => .int .i64 p.i)
  rb : W.ownsRow (o + 6) 30 5 vb lb.length (lb.flatMap Pl.cells5)

theorem row_keep {o : Nat} {W W' : World} (hk : ∀ (k : Nat) (c : Array Value) (t : TypeId) (f : Nat × Nat), W.heap[k]? = some (.cells c t f) → W'.heap[k]? = W.heap[k]?) {e : TypeId} {s : Nat} {v : Value} {n : Nat} {xs : List Value} (h : W.ownsRow o e s v n xs) : W'.ownsRow o e s v n xs :=
  ownsRow_of_heap h fun k e' => by
    rcases h.2 with ⟨rfl, _⟩ | ⟨g, cap, cur, rfl, _, hg, _⟩
    · cases e'
    · obtain rfl : g = k := by simpa [Value.ownBlock] using e'
      exact hk _ _ _ _ hg
theorem InRows.keep {o most : Nat} {la lb : List Pl} {W W' : World} {va vb : Value} (h : InRows o most la lb W va vb) (hk : ∀ (k : Nat) (c : Array Value) (t : TypeId) (f : Nat × Nat), W.heap[k]? = some (.cells c t f) → W'.heap[k]? = W.heap[k]?) : InRows o most la lb W' va vb :=
  ⟨boxed_of_heap h.m (hk _ _ _ _ h.m), boxed_of_heap h.r1 (hk _ _ _ _ h.r1), boxed_of_heap h.r2 (hk _ _ _ _ h.r2), boxed_of_heap h.r3 (hk _ _ _ _ h.r3), boxed_of_heap h.a (hk _ _ _ _ h.a), boxed_of_heap h.b (hk _ _ _ _ h.b), row_keep hk h.ra, row_keep hk h.rb⟩
theorem InRows.below {o most : Nat} {la lb : List Pl} {W W' : World} {va vb : Value} (h : InRows o most la lb W va vb) (hb : Below W.heap.size W W') : InRows o most la lb W' va vb :=
  h.keep fun k _ _ _ e => hb.block k (Array.getElem?_eq_some_iff.1 e).1

theorem InRows.appA {o most : Nat} {la lb : List Pl} {W w1 : World} {va vb v1 : Value} {p : Pl} {ob : Obj} (h : InRows o most la lb W va vb) (hown1 : w1.ownsRow (o + 6) 3 1 v1 (la.length + 1) ((la.map fun p => .int .i64 p.i) ++ [.int .i64 p.i])) (hgrow : (W.alloc ob).grownBy w1 va.ownBlock) :
    Boxed w1 (o + 4) 27 va ∧ InRows o most (la ++ [p]) lb (w1.setCell ⟨o + 4, 0, none⟩ v1) v1 vb ∧ KeepsOthers W (w1.setCell ⟨o + 4, 0, none⟩ v1) ∧ (∀ k, k < W.heap.size → k ≠ o + 4 → va.ownBlock ≠ some k → (w1.setCell ⟨o + 4, 0, none⟩ v1).heap[k]? = W.heap[k]?) ∧
      (∀ b w, b ≤ o + 4 → Below b w W → Below b w (w1.setCell ⟨o + 4, 0, none⟩ v1)) := by
  have hlt := h.b.lt
  obtain ⟨x1, x2, x3, x4, x5, x6⟩ := box_app h.a h.ra (by omega) (by omega) hown1 hgrow
  have bk : ∀ k, k < o + 6 → k ≠ o + 4 → (w1.setCell ⟨o + 4, 0, none⟩ v1).heap[k]? = W.heap[k]? := fun k hk hne => x5 k (by omega) hne (fun e => by have := (h.ra.lt k e).1; omega)
  refine ⟨x1, ⟨boxed_of_heap h.m (bk _ (by omega) (by omega)), boxed_of_heap h.r1 (bk _ (by omega) (by omega)), boxed_of_heap h.r2 (bk _ (by omega) (by omega)), boxed_of_heap h.r3 (bk _ (by omega) (by omega)), x2, boxed_of_heap h.b (bk _ (by omega) (by omega)), ?_, ?_⟩, x4, x5, x6⟩
  · rw [List.length_append, List.map_append]
    exact x3
  · exact ownsRow_of_heap h.rb fun k e => x5 k (h.rb.lt k e).2 (by have := (h.rb.lt k e).1; omega) (fun e' => rows_apart (by decide) h.rb h.ra k e e')
theorem InRows.appB {o most : Nat} {la lb : List Pl} {W w1 : World} {va vb v1 : Value} {p : Pl} {ob : Obj} (h : InRows o most la lb W va vb) (hown1 : w1.ownsRow (o + 6) 30 5 v1 (lb.length + 1) (lb.flatMap Pl.cells5 ++ p.cells5)) (hgrow : (W.alloc ob).grownBy w1 vb.ownBlock) :
    Boxed w1 (o + 5) 22 vb ∧ InRows o most la (lb ++ [p]) (w1.setCell ⟨o + 5, 0, none⟩ v1) va v1 ∧ KeepsOthers W (w1.setCell ⟨o + 5, 0, none⟩ v1) ∧ (∀ k, k < W.heap.size → k ≠ o + 5 → vb.ownBlock ≠ some k → (w1.setCell ⟨o + 5, 0, none⟩ v1).heap[k]? = W.heap[k]?) ∧
      (∀ b w, b ≤ o + 5 → Below b w W → Below b w (w1.setCell ⟨o + 5, 0, none⟩ v1)) := by
  have hlt := h.b.lt
  obtain ⟨x1, x2, x3, x4, x5, x6⟩ := box_app h.b h.rb (by omega) (by omega) hown1 hgrow
  have bk : ∀ k, k < o + 6 → k ≠ o + 5 → (w1.setCell ⟨o + 5, 0, none⟩ v1).heap[k]? = W.heap[k]? := fun k hk hne => x5 k (by omega) hne (fun e => by have := (h.rb.lt k e).1; omega)
  refine ⟨x1, ⟨boxed_of_heap h.m (bk _ (by omega) (by omega)), boxed_of_heap h.r1 (bk _ (by omega) (by omega)), boxed_of_heap h.r2 (bk _ (by omega) (by omega)), boxed_of_heap h.r3 (bk _ (by omega) (by omega)), boxed_of_heap h.a (bk _ (by omega) (by omega)), x2, ?_, ?_⟩, x4, x5, x6⟩
  · exact ownsRow_of_heap h.ra fun k e => x5 k (h.ra.lt k e).2 (by have := (h.ra.lt k e).1; omega) (fun e' => rows_apart (by decide) h.ra h.rb k e e')
  · rw [List.length_append, List.flatMap_append]
    simpa using x3

set_option maxRecDepth 100000 in
set_option maxHeartbeats 4000000 in
theorem rows_calls (B : Nat) (v : Value) (pl : List Pl) (most : Nat) (w0 w : World) (hA : IsOf w0 B v (B + 1) pl) (hw : Below w0.heap.size w0 w) (hd : ∀ p ∈ pl, p.r.dep.length ≤ 17592186044416) (hl : pl.length ≤ most) (hm : most ≤ 1048576) :
    Calls Tryd.prog 13 #[.func (.func 17) #[] #[.pointer (some ⟨B, 0, none⟩)], .int .i64 (most : Int)] w fun e w' => ∃ va vb, e = .returned (.tuple #[va, vb, .bool true]) ∧
      IsNums .i64 w' va (pl.map (·.i)) ∧ (∃ a c, vb = .slice a pl.length c) ∧ Below w.heap.size w w' := by
  have heq : ∀ (fn : Fn) (first cap : Array Value) (w : World), (binOp .eql 25 (.func fn first cap) .nilFunc).run Tryd.prog w = .ok (.bool false) w := fun _ _ _ _ => by kernel_rfl
  obtain ⟨i0, hi, hz0, hz1, hz2⟩ := info_parts Tryd.info3
  obtain ⟨j0, ji, jz0, jz1, jz2⟩ := info_parts Tryd.info30
  refine (callsIn_wide (n := 5)).1 ?_
  refine callsIn_of_wp_marks Tryd.func13 rfl trivial ?_ rfl
  simp only [Tryd.ntmps13, List.size_toArray, List.length_cons, List.length_nil, Nat.reduceAdd, Nat.reduceSub, Array.replicate_succ, Array.replicate_zero, List.push_toArray, List.append_toArray, List.nil_append, List.cons_append]
  gi_wp2
  have b0 := Boxed.new w 3 (.int .i64 (most : Int))
  obtain ⟨w1', hw1⟩ : ∃ w', w.alloc (.cells #[.int .i64 (most : Int)] 3) = w' := ⟨_, rfl⟩
  have s1 : w1'.heap.size = w.heap.size + 1 := by rw [← hw1]; simp
  have b1 := Boxed.new w1' 27 (.slice none 0 0)
  obtain ⟨w2', hw2⟩ : ∃ w', w1'.alloc (.cells #[.slice none 0 0] 27) = w' := ⟨_, rfl⟩
  have s2 : w2'.heap.size = w.heap.size + 2 := by rw [← hw2]; simp [s1]
  have b2 := Boxed.new w2' 22 (.slice none 0 0)
  obtain ⟨w3', hw3⟩ : ∃ w', w2'.alloc (.cells #[.slice none 0 0] 22) = w' := ⟨_, rfl⟩
  have s3 : w3'.heap.size = w.heap.size + 3 := by rw [← hw3]; simp [s2]
  have b3 := Boxed.new w3' 4 (.bool false)
  obtain ⟨w4', hw4⟩ : ∃ w', w3'.alloc (.cells #[.bool false] 4) = w' := ⟨_, rfl⟩
  have s4 : w4'.heap.size = w.heap.size + 4 := by rw [← hw4]; simp [s3]
  have b4 := Boxed.new w4' 27 (.slice none 0 0)
  obtain ⟨w5', hw5⟩ : ∃ w', w4'.alloc (.cells #[.slice none 0 0] 27) = w' := ⟨_, rfl⟩
  have s5 : w5'.heap.size = w.heap.size + 5 := by rw [← hw5]; simp [s4]
  have b5 := Boxed.new w5' 22 (.slice none 0 0)
  obtain ⟨w6', hw6⟩ : ∃ w', w5'.alloc (.cells #[.slice none 0 0] 22) = w' := ⟨_, rfl⟩
  have s6 : w6'.heap.size = w.heap.size + 6 := by rw [← hw6]; simp [s5]
  rw [hw1] at b0
  rw [hw2] at b1
  rw [hw3] at b2
  rw [hw4] at b3
  rw [hw5] at b4
  rw [hw6] at b5
  replace b0 : Boxed w6' w.heap.size 3 (.int .i64 (most : Int)) := by rw [← hw6, ← hw5, ← hw4, ← hw3, ← hw2]; exact (((((b0).alloc _).alloc _).alloc _).alloc _).alloc _
  replace b1 : Boxed w6' (w.heap.size + 1) 27 (.slice none 0 0) := by rw [s1] at b1; rw [← hw6, ← hw5, ← hw4, ← hw3]; exact ((((b1).alloc _).alloc _).alloc _).alloc _
  replace b2 : Boxed w6' (w.heap.size + 2) 22 (.slice none 0 0) := by rw [s2] at b2; rw [← hw6, ← hw5, ← hw4]; exact (((b2).alloc _).alloc _).alloc _
  replace b3 : Boxed w6' (w.heap.size + 3) 4 (.bool false) := by rw [s3] at b3; rw [← hw6, ← hw5]; exact ((b3).alloc _).alloc _
  replace b4 : Boxed w6' (w.heap.size + 4) 27 (.slice none 0 0) := by rw [s4] at b4; rw [← hw6]; exact (b4).alloc _
  replace b5 : Boxed w6' (w.heap.size + 5) 22 (.slice none 0 0) := by rw [s5] at b5; exact b5
  have hB6 : Below w.heap.size w w6' := by
    rw [← hw6, ← hw5, ← hw4, ← hw3, ← hw2, ← hw1]
    exact ((((((Below.refl _ w).alloc (Nat.le_refl _) _).alloc (by simp) _).alloc (by simp; omega) _).alloc (by simp; omega) _).alloc (by simp; omega) _).alloc (by simp; omega) _
  rw [hw1, hw2, hw3, hw4, hw5, hw6]
  clear hw1 hw2 hw3 hw4 hw5 hw6 s1 s2 s3 s4 s5 w1' w2' w3' w4' w5'
  simp only [Nat.add_assoc, Nat.reduceAdd]
  have hw6 := hw.trans (hB6.mono hw.size)
  have hww := hw.size
  refine range_lawR (by decide) (gf := 17) (lb := #[.pointer (some ⟨B, 0, none⟩)]) rfl (enters_of Tryd.func17 (by kernel_rfl) rfl)
    (of_stops 4 (by decide) B v pl (by omega) hd w0 w6' hA hw6) keepsSpan_t (keepsSpan_b (by omega)) ?hE (fun _ => rfl)
    (fun pre W => (∃ va vb, InRows w.heap.size most pre pre W va vb) ∧ Below w.heap.size w W)
    (fun _ _ _ => False)
    (OwnFrom.and (Own.from (fun s X Y row hs hg hr => by
      obtain ⟨va, vb, h⟩ := hs
      exact ⟨va, vb, h.keep fun k c t f e => own_keeps hg hr e⟩) _) (ownFrom_below (Nat.le_refl _) (by omega)))
    (fun _ _ _ _ _ hs _ _ => hs)
    ⟨⟨_, _, ⟨b0, b1, b2, b3, b4, b5, World.ownsRow_nil _ _ _ _, World.ownsRow_nil _ _ _ _⟩⟩, hB6⟩
    (fun x A a' W => ∃ Bx va vc, Below A.heap.size A W ∧ x.vd = .slice va x.r.dep.length vc ∧ A.heap.size ≤ Bx ∧ W.heap[Bx]? = some (.cells #[.int .i64 x.r.site, .int .i64 x.r.seq, x.vd, .string x.r.key, .string x.r.val] 30 (0, 0)) ∧ a' = { tmps := #[.func (.func 17) #[] #[.pointer (some ⟨B, 0, none⟩)], .int .i64 (most : Int), undef, .pointer (some ⟨w.heap.size, 0, none⟩), .pointer (some ⟨w.heap.size + 1, 0, none⟩), .pointer (some ⟨w.heap.size + 2, 0, none⟩), .pointer (some ⟨w.heap.size + 3, 0, none⟩), .pointer (some ⟨w.heap.size + 4, 0, none⟩), .pointer (some ⟨w.heap.size + 5, 0, none⟩), .int .i64 x.i, .pointer (some ⟨Bx, 0, none⟩), .func (.func 17) #[] #[.pointer (some ⟨B, 0, none⟩)], .bool false, .func (.func 17) #[] #[.pointer (some ⟨B, 0, none⟩)], .int .i64 x.i, .agg #[.int .i64 x.r.site, .int .i64 x.r.seq, x.vd, .string x.r.key, .string x.r.val], undef, undef, undef, undef, undef, undef, undef, undef, undef, undef, undef, undef, undef, undef, undef, undef], defers := [] })
    ?hAp ?assign ?body ?done ?stop
  case hE => exact fun x A W h => keepsFrom_below h.1
  case hAp =>
    rintro x A a' W l o o' ⟨Bx, va, vc, h1, h2, h3, h4, h5⟩ _ hAl hWl ho
    refine ⟨Bx, va, vc, below_put h1, h2, by simpa [World.putObj] using h3, ?_, h5⟩
    have hne : l ≠ Bx := by
      intro e
      rw [e, h4] at hWl
      cases hWl
      cases ho
    unfold World.putObj
    simp only [Array.getElem?_setIfInBounds]
    rw [if_neg hne]
    exact h4
  case assign =>
    clear b0 b1 b2 b3 b4 b5
    rintro l pre ⟨xi, ⟨site, seq, dep, key, val⟩, vd⟩ A W K hI hE hlt hK
    have hE2 := hE.2.1
    have hE1 := hE.1
    dsimp only [encPl] at *
    obtain ⟨va, vc, rfl⟩ := ownsRow_slice hE2
    clear hE
    replace hK := hide hK
    have hz1 := hI.2.size
    have hz2' := hE1.size
    have HE1 := hide hE1
    clear hE1 hI hE2
    gi_wp2
    exact hK.out _ _ ⟨W.heap.size, va, vc, HE1.out.alloc HE1.out.size _, rfl, HE1.out.size, World.alloc_heap_new W _, rfl⟩ (keepsFrom_below (box_below W _)) (KeepsSpan.of_below (box_below W _) (by omega))
  case body =>
    clear b0 b1 b2 b3 b4 b5
    rintro lp pre x A a' W ⟨⟨va0, vb0, hin0⟩, hBA⟩ ⟨Bx, va, vc, hAW, hvd, hBx, hbx, rfl⟩ hlt
    have hin := hin0.below hAW
    have hB := hBA.trans (hAW.mono hBA.size)
    have hA6 := hin0.b.lt
    have hbxl := ltB hbx
    have nra : va0.ownBlock ≠ some Bx := fun e => by have := (hin0.ra.lt Bx e).2; omega
    have nrb : vb0.ownBlock ≠ some Bx := fun e => by have := (hin0.rb.lt Bx e).2; omega
    have hvd3 : ∀ u ∈ [Value.int .i64 x.r.site, .int .i64 x.r.seq, .slice va x.r.dep.length vc, .string x.r.key, .string x.r.val], u.oneCell' = true := by
      have := five_one hvd
      unfold Pl.cells5 at this
      rwa [hvd] at this
    have hc5 := hide (show x.cells5 = [Value.int .i64 x.r.site, .int .i64 x.r.seq, .slice va x.r.dep.length vc, .string x.r.key, .string x.r.val] by unfold Pl.cells5; rw [hvd])
    rw [hvd] at hbx ⊢
    obtain ⟨pa, ca, rfl⟩ := ownsRow_slice hin.ra
    obtain ⟨pb, cb, rfl⟩ := ownsRow_slice hin.rb
    have y0 := cell_at hbx 0
    have y1 := cell_at hbx 1
    have y2 := cell_at hbx 2
    have y3 := cell_at hbx 3
    have y4 := cell_at hbx 4
    simp only [List.getElem?_toArray, List.getElem?_cons_zero, List.getElem?_cons_succ] at y0 y1 y2 y3 y4
    have c1 := hin.a.cell
    have c2 := hin.b.cell
    have c3 := hin.m.cell
    have hlt2 : (pre.length : Int) < (most : Int) := by omega
    have hbs := hB.size
    have hW6 := hin.b.lt
    have Hin := hide hin
    have Hbx := hide hbx
    have HB := hide hB
    have Hvd := hide hvd
    clear hin hbx hB hin0 hAW hvd
    gi_wp2_with (first
      | (gi_at_builtin; refine wpListIn_append_own_at _ rfl (.tmp 22) _ 27 rfl (w.heap.size + 6) 3 i0 (.int .i64 0) 1 8 Tryd.underlying27 hi hz0 hz1 hz2 rfl (by decide) _ _ _ rfl (World.ownsRow.alloc Hin.out.ra _) ⟨_, 0, none⟩ 1 1 [.int .i64 x.i] rfl rfl (cell_one_at (by simp)) (by intro u hu; simp at hu; subst hu; rfl) (by unfold maxLen; omega) (by omega) (by simp; omega) ?_; intro v1 w1 hown1 hgrow1 _ hat1; obtain ⟨g1, cap1, rfl⟩ := ownsRow_succ hown1; obtain ⟨bx1, hin1, k1, o1, l1⟩ := Hin.out.appA (p := x) hown1 hgrow1; have d1 := bx1.cell; have f1 := bx1.frozen; have d2 := hin1.b.cell; have hbx1 := (o1 Bx hbxl (by omega) nra).trans Hbx.out; have q0 := cell_at hbx1 0; have q1 := cell_at hbx1 1; have q2 := cell_at hbx1 2; have q3 := cell_at hbx1 3; have q4 := cell_at hbx1 4; simp only [List.getElem?_toArray, List.getElem?_cons_zero, List.getElem?_cons_succ] at q0 q1 q2 q3 q4; have hs1 := k1.size; rw [size_set] at hs1; have Hin1 := hide hin1; have Hl1 := hide l1; have Ho1 := hide o1; clear hgrow1 hat1 hown1 hin1 l1 o1 hbx1)
      | (gi_at_builtin; refine wpListIn_append_own_at _ rfl (.tmp 26) _ 22 rfl (w.heap.size + 6) 30 j0 _ 5 72 Tryd.underlying22 ji jz0 jz1 jz2 rfl (by decide) _ _ _ rfl (World.ownsRow.alloc Hin1.out.rb _) ⟨_, 0, none⟩ 1 1 [.int .i64 x.r.site, .int .i64 x.r.seq, .slice va x.r.dep.length vc, .string x.r.key, .string x.r.val] rfl rfl (cells_new (by simp)) (by intro u hu; exact hvd3 u hu) (by unfold maxLen; omega) (by omega) (by simp; omega) ?_; intro v2 w2 hown2 hgrow2 _ hat2; obtain ⟨g2, cap2, rfl⟩ := ownsRow_succ hown2; obtain ⟨bx2, hin2, k2, o2, l2⟩ := Hin1.out.appB (p := x) (by rw [hc5.out]; exact hown2) hgrow2; have e1 := bx2.cell; have f2 := bx2.frozen; clear hgrow2 hat2 hown2))
    have hB2 := l2 w.heap.size w (by omega) (Hl1.out w.heap.size w (by omega) HB.out)
    refine ⟨(k1.trans k2).from _, fun k h1 h2 => ?_, ⟨_, _, hin2⟩, hB2⟩
    have hk : k < w.heap.size := by omega
    rw [hB2.block k hk, HB.out.block k hk]
  case done =>
    clear b0 b1 b2 b3 b4 b5
    rintro D ys W hD hys ⟨⟨va, vb, h⟩, hB⟩ hK
    have hlen : ys.length = pl.length := by have := congrArg List.length hys; simpa using this
    have hmap : ys.map (·.i) = pl.map (·.i) := by have := congrArg (List.map Prod.fst) hys; simpa [List.map_map, Function.comp_def] using this
    obtain ⟨pa, ca, rfl⟩ := ownsRow_slice h.ra
    obtain ⟨pb, cb, rfl⟩ := ownsRow_slice h.rb
    have c1 := h.a.cell
    have c2 := h.b.cell
    have c4 := h.r1.cell
    have c5 := h.r2.cell
    have c6 := h.r3.cell
    have f4 := h.r1.frozen
    have f5 := h.r2.frozen
    have f6 := h.r3.frozen
    have Hlen := hide hlen
    have Hmap := hide hmap
    have Hh := hide h
    have HB := hide hB
    clear h hB hlen hmap hys
    gi_wp2
    gi_region
    obtain ⟨va, hva⟩ : ∃ va, Value.slice pa ys.length ca = va := ⟨_, rfl⟩
    obtain ⟨vb, hvb⟩ : ∃ vb, Value.slice pb ys.length cb = vb := ⟨_, rfl⟩
    rw [hva, hvb] at Hh ⊢
    have hh := Hh.out
    obtain ⟨W3, hW3⟩ : ∃ W3, (((W.setCell ⟨w.heap.size + 1, 0, none⟩ va).setCell ⟨w.heap.size + 2, 0, none⟩ vb).setCell ⟨w.heap.size + 3, 0, none⟩ (.bool true)).drew = W3 := ⟨_, rfl⟩
    have hK3 : W3.heap[D]? = some (.deferred (some [])) := by
      rw [← hW3]
      exact (KeepsOthers.setCell _ _ _).same D _ ((KeepsOthers.setCell _ _ _).same D _ ((KeepsOthers.setCell _ _ _).same D _ hK rfl) rfl) rfl
    have hother : ∀ k, k ≠ w.heap.size + 1 → k ≠ w.heap.size + 2 → k ≠ w.heap.size + 3 → W3.heap[k]? = W.heap[k]? := by
      intro k h1 h2 h3
      rw [← hW3]
      exact (Below.heap_setCell _ _ _ _ h3).trans ((Below.heap_setCell _ _ _ _ h2).trans (Below.heap_setCell _ _ _ _ h1))
    have R1 : Boxed W3 (w.heap.size + 1) 27 va := by
      rw [← hW3]
      exact boxed_of_heap (boxed_of_heap (hh.r1.set va) (Below.heap_setCell _ _ _ _ (show w.heap.size + 1 ≠ w.heap.size + 2 by omega))) (Below.heap_setCell _ _ _ _ (show w.heap.size + 1 ≠ w.heap.size + 3 by omega))
    have R2 : Boxed W3 (w.heap.size + 2) 22 vb := by
      rw [← hW3]
      exact boxed_of_heap ((boxed_of_heap hh.r2 (Below.heap_setCell _ _ _ _ (show w.heap.size + 2 ≠ w.heap.size + 1 by omega))).set vb) (Below.heap_setCell _ _ _ _ (show w.heap.size + 2 ≠ w.heap.size + 3 by omega))
    have R3 : Boxed W3 (w.heap.size + 3) 4 (.bool true) := by
      rw [← hW3]
      exact (boxed_of_heap (boxed_of_heap hh.r3 (Below.heap_setCell _ _ _ _ (show w.heap.size + 3 ≠ w.heap.size + 1 by omega))) (Below.heap_setCell _ _ _ _ (show w.heap.size + 3 ≠ w.heap.size + 2 by omega))).set (.bool true)
    have ra := ownsRow_of_heap hh.ra (W' := W3) (fun k hk => by have := (hh.ra.lt k hk).1; exact hother k (by omega) (by omega) (by omega))
    have hB3 : Below w.heap.size w W3 := by
      rw [← hW3]
      exact (((HB.out.setCell (p := ⟨w.heap.size + 1, 0, none⟩) (by simp) _).setCell (p := ⟨w.heap.size + 2, 0, none⟩) (by simp) _).setCell (p := ⟨w.heap.size + 3, 0, none⟩) (by simp) _).drew
    rw [hW3]
    clear hother hW3 c1 c2 c4 c5 c6 f4 f5 f6 hK heq
    gi_wp2
    have hg := grownBy_putObj' W3 D (.deferred none)
    have hr : ∀ r, some D = some r → ∃ o : Obj, W3.heap[r]? = some o ∧ o.isCells = false := fun r e => by cases e; exact ⟨_, hK3, rfl⟩
    have Q1 := (boxed_own' hg hr R1).cell
    have Q2 := (boxed_own' hg hr R2).cell
    have Q3 := (boxed_own' hg hr R3).cell
    have ra' := ownsRow_own' hg hr ra
    refine ⟨by simp, .inl ⟨_, _, rfl, run_takeDeferred hK3, ?_⟩⟩
    refine ⟨.tuple #[va, vb, .bool true], ?_, va, vb, rfl, ?_, ⟨pb, cb, by rw [← hvb, Hlen.out]⟩, ?_⟩
    · subst hva
      subst hvb
      simp [results, Tryd.f13, go_sem, Q1, Q2, Q3]
    · rw [← Hmap.out]
      exact IsNums.of_row (by rw [List.map_map]; exact ra')
    · exact hB3.trans (belowK_b (w := w) (Nat.le_refl _) W3 D _ _ (by omega) hK3 rfl rfl)
  case stop =>
    rintro D c pre W _ _ h _
    exact h.elim

end Go.Proofs.YthpahkcncjieiaaDoor
