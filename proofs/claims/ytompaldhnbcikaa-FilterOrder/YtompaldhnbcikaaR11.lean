/- The laws' Rows: what a range over numbers and records tells. Own work; no statement. -/
import Derived.Test.YtompaldhnbcikaaR10
import Derived.Maps.OwnIn
set_option linter.unusedSimpArgs false
set_option linter.unusedVariables false
namespace Go.Proofs.Ytompaldhnbcikaa
open Go.RowKit Go.Shelf Go.Sort

attribute [local go_sem] Oper.semAt_some

theorem Try.info35 : (Try.prog.info? 35).map (fun i => (i.zero, i.size, i.bytes)) = some (some (.agg #[.int .i64 0, .int .i64 0, .slice none 0 0, .string ⟨#[]⟩, .string ⟨#[]⟩]), 5, 72) := by kernel_rfl

theorem size_set (W : World) (a : Addr) (v : Value) : (W.setCell a v).heap.size = W.heap.size := by simp [World.setCell]
/-- 'x = append(x, ..)' by way of x's box B, the rows all beyond the boxes. -/
theorem box_app {W w1 : World} {B n₀ : Nat} {T e : TypeId} {size : Nat} {v v1 : Value} {n m : Nat} {xs ys : List Value} {o : Obj} (hbx : Boxed W B T v) (hrow : W.ownsRow n₀ e size v n xs) (hB : B < n₀) (hn : n₀ ≤ W.heap.size)
    (hown1 : w1.ownsRow n₀ e size v1 m ys) (hgrow : (W.alloc o).grownBy w1 v.ownBlock) :
    Boxed w1 B T v ∧ Boxed (w1.setCell ⟨B, 0, none⟩ v1) B T v1 ∧ (w1.setCell ⟨B, 0, none⟩ v1).ownsRow n₀ e size v1 m ys ∧ KeepsOthers W (w1.setCell ⟨B, 0, none⟩ v1) ∧
      (∀ k, k < W.heap.size → k ≠ B → v.ownBlock ≠ some k → (w1.setCell ⟨B, 0, none⟩ v1).heap[k]? = W.heap[k]?) ∧ (∀ b w, b ≤ B → Below b w W → Below b w (w1.setCell ⟨B, 0, none⟩ v1)) := by
  have hne : some B ≠ v.ownBlock := fun e' => by have := (hrow.lt B e'.symm).1; omega
  have hv1 : Boxed w1 B T v := (hbx.alloc o).kept hgrow hne
  refine ⟨hv1, hv1.set v1, ownsRow_of_heap hown1 (fun k hk => Below.heap_setCell _ _ _ _ (fun e' => by have := (hown1.lt k hk).1; have e2 : k = B := e'; omega)), ?_, ?_, ?_⟩
  · refine ((KeepsOthers.alloc W o).trans (KeepsOthers.of_grownBy hgrow fun j o' ej hj => ?_)).trans (KeepsOthers.setCell _ _ _)
    rcases (hrow.alloc o).2 with ⟨rfl, _⟩ | ⟨g, cap, cur, rfl, _, hgb, _⟩
    · simp [Value.ownBlock] at ej
    · obtain rfl : g = j := by simpa [Value.ownBlock] using ej
      rw [hgb] at hj; cases hj; rfl
  · exact fun k hk hkB hkr => app_other hgrow k hk (fun e' => hkr e'.symm) hkB
  · intro b w hb h
    have := hbx.lt
    exact ((h.alloc (by omega) o).grown hgrow (by simp; omega) (fun j ej => by have := (hrow.lt j ej).1; omega)).setCell (p := ⟨B, 0, none⟩) hb v1

theorem keepsFrom_below {B : Nat} {A W : World} (h : Below A.heap.size A W) : KeepsFrom B A W := ⟨h.size, fun k o _ ho _ => keepB ho h⟩
theorem below_put {A W : World} {l : Nat} {o' : Obj} (h : Below A.heap.size A W) : Below (A.putObj l o').heap.size (A.putObj l o') (W.putObj l o') := by
  refine ⟨h.os, h.tape, h.output, by simpa [World.putObj] using h.size, fun k hk => ?_⟩
  have hk' : k < A.heap.size := by simpa [World.putObj] using hk
  have hs := h.size
  unfold World.putObj
  simp only [Array.getElem?_setIfInBounds]
  by_cases e : l = k
  · subst e
    rw [if_pos rfl, if_pos rfl, if_pos hk', if_pos (by omega)]
  · rw [if_neg e, if_neg e]
    exact h.block k hk'

def Pl.cells5 (p : Pl) : List Value := [.int .i64 p.r.site, .int .i64 p.r.seq, p.vd, .string p.r.key, .string p.r.val]

theorem five_one {p : Pl} {a : Option Addr} {n c : Nat} (h : p.vd = .slice a n c) : ∀ u ∈ p.cells5, u.oneCell' = true := by
  intro u hu
  simp only [Pl.cells5, h, List.mem_cons, List.not_mem_nil, or_false] at hu
  rcases hu with rfl | rfl | rfl | rfl | rfl <;> rfl

theorem flat5 : ∀ (pl : List Pl) (k j : Nat) (h : k < pl.length), j < 5 → (pl.flatMap Pl.cells5)[k * 5 + j]? = (pl[k]).cells5[j]?
  | [], _, _, h, _ => absurd h (by simp)
  | p :: pl, 0, j, _, hj => by
    rw [List.flatMap_cons, List.getElem?_append_left (by simp [Pl.cells5]; omega)]
    simp
  | p :: pl, k + 1, j, h, hj => by
    rw [List.flatMap_cons, List.getElem?_append_right (by simp [Pl.cells5]; omega)]
    have e : (k + 1) * 5 + j - p.cells5.length = k * 5 + j := by simp [Pl.cells5]; omega
    rw [e, flat5 pl k j (by simpa using h) hj]
    simp

/-- A row of records, each one's numbers in a row of their own, read. -/
theorem recs_of_row {w : World} {o : Nat} {v : Value} {l : List Pl} (h : w.ownsRow o 35 5 v l.length (l.flatMap Pl.cells5)) (hd : ∀ p ∈ l, w.ownsRow o 3 1 p.vd p.r.dep.length (p.r.dep.map (Value.int .i64))) : IsRecs w v (l.map (·.r)) := by
  obtain ⟨a, cap, rfl⟩ := ownsRow_slice h
  refine ⟨a, cap, by simp, fun t ht => ?_⟩
  have ht' : t < l.length := by simpa using ht
  rcases h.2 with ⟨e1, e2⟩ | ⟨g, cap', cur, e1, -⟩
  · omega
  · simp only [Value.slice.injEq] at e1
    obtain ⟨rfl, -, rfl⟩ := e1
    have hdep := hd _ (List.getElem_mem ht')
    have hcell : ∀ j, j < 5 → w.cell? ⟨g, t * 5 + j, none⟩ = (l[t]).cells5[j]? := fun j hj => by
      rw [h.cellAt (t * 5 + j) (by omega)]
      exact flat5 l t j ht' hj
    have c0 := hcell 0 (by omega)
    have c1 := hcell 1 (by omega)
    have c2 := hcell 2 (by omega)
    have c3 := hcell 3 (by omega)
    have c4 := hcell 4 (by omega)
    simp only [Pl.cells5, List.getElem?_cons_zero, List.getElem?_cons_succ, Nat.add_zero] at c0 c1 c2 c3 c4
    obtain ⟨da, dcap, hda⟩ := ownsRow_slice hdep
    rw [hda] at c2 hdep
    refine ⟨g, 0, rfl, da, dcap, ?_⟩
    simp only [List.getElem_map, Nat.zero_add]
    exact ⟨c0, c1, c2, c3, c4, IsNums.of_row hdep⟩

/-- What lies in the boxes of Rows, and in its rows. -/
structure InRows (o most : Nat) (la lb : List Pl) (W : World) (va vb : Value) : Prop where
  m : Boxed W o 3 (.int .i64 (most : Int))
  r1 : Boxed W (o + 1) 32 (.slice none 0 0)
  r2 : Boxed W (o + 2) 43 (.slice none 0 0)
  r3 : Boxed W (o + 3) 4 (.bool false)
  a : Boxed W (o + 4) 32 va
  b : Boxed W (o + 5) 43 vb
  ra : W.ownsRow (o + 6) 3 1 va la.length (la.map fun p => .int .i64 p.i)
  rb : W.ownsRow (o + 6) 35 5 vb lb.length (lb.flatMap Pl.cells5)

theorem row_keep {o : Nat} {W W' : World} (hk : ∀ (k : Nat) (c : Array Value) (t : TypeId) (f : Nat × Nat), W.heap[k]? = some (.cells c t f) → W'.heap[k]? = W.heap[k]?) {e : TypeId} {s : Nat} {v : Value} {n : Nat} {xs : List Value} (h : W.ownsRow o e s v n xs) : W'.ownsRow o e s v n xs :=
  ownsRow_of_heap h fun k e' => by
    rcases h.2 with ⟨rfl, _⟩ | ⟨g, cap, cur, rfl, _, hg, _⟩
    · cases e'
    · obtain rfl : g = k := by simpa [Value.ownBlock] using e'
      exact hk _ _ _ _ hg
theorem InRows.keep {o most : Nat} {la lb : List Pl} {W W' : World} {va vb : Value} (h : InRows o most la lb W va vb) (hk : ∀ (k : Nat) (c : Array Value) (t : TypeId) (f : Nat × Nat), W.heap[k]? = some (.cells c t f) → W'.heap[k]? = W.heap[k]?) : InRows o most la lb W' va vb :=
  ⟨boxed_of_heap h.m (hk _ _ _ _ h.m), boxed_of_heap h.r1 (hk _ _ _ _ h.r1), boxed_of_heap h.r2 (hk _ _ _ _ h.r2), boxed_of_heap h.r3 (hk _ _ _ _ h.r3), boxed_of_heap h.a (hk _ _ _ _ h.a), boxed_of_heap h.b (hk _ _ _ _ h.b), row_keep hk h.ra, row_keep hk h.rb⟩
theorem InRows.below {o most : Nat} {la lb : List Pl} {W W' : World} {va vb : Value} (h : InRows o most la lb W va vb) (hb : Below W.heap.size W W') : InRows o most la lb W' va vb :=
  h.keep fun k _ _ _ e => hb.block k (Array.getElem?_eq_some_iff.1 e).1

theorem InRows.appA {o most : Nat} {la lb : List Pl} {W w1 : World} {va vb v1 : Value} {p : Pl} {ob : Obj} (h : InRows o most la lb W va vb) (hown1 : w1.ownsRow (o + 6) 3 1 v1 (la.length + 1) ((la.map fun p => .int .i64 p.i) ++ [.int .i64 p.i])) (hgrow : (W.alloc ob).grownBy w1 va.ownBlock) :
    Boxed w1 (o + 4) 32 va ∧ InRows o most (la ++ [p]) lb (w1.setCell ⟨o + 4, 0, none⟩ v1) v1 vb ∧ KeepsOthers W (w1.setCell ⟨o + 4, 0, none⟩ v1) ∧ (∀ k, k < W.heap.size → k ≠ o + 4 → va.ownBlock ≠ some k → (w1.setCell ⟨o + 4, 0, none⟩ v1).heap[k]? = W.heap[k]?) ∧
      (∀ b w, b ≤ o + 4 → Below b w W → Below b w (w1.setCell ⟨o + 4, 0, none⟩ v1)) := by
  have hlt := h.b.lt
  obtain ⟨x1, x2, x3, x4, x5, x6⟩ := box_app h.a h.ra (by omega) (by omega) hown1 hgrow
  have bk : ∀ k, k < o + 6 → k ≠ o + 4 → (w1.setCell ⟨o + 4, 0, none⟩ v1).heap[k]? = W.heap[k]? := fun k hk hne => x5 k (by omega) hne (fun e => by have := (h.ra.lt k e).1; omega)
  refine ⟨x1, ⟨boxed_of_heap h.m (bk _ (by omega) (by omega)), boxed_of_heap h.r1 (bk _ (by omega) (by omega)), boxed_of_heap h.r2 (bk _ (by omega) (by omega)), boxed_of_heap h.r3 (bk _ (by omega) (by omega)), x2, boxed_of_heap h.b (bk _ (by omega) (by omega)), ?_, ?_⟩, x4, x5, x6⟩
  · rw [List.length_append, List.map_append]
    exact x3
  · exact ownsRow_of_heap h.rb fun k e => x5 k (h.rb.lt k e).2 (by have := (h.rb.lt k e).1; omega) (fun e' => rows_apart (by decide) h.rb h.ra k e e')
theorem InRows.appB {o most : Nat} {la lb : List Pl} {W w1 : World} {va vb v1 : Value} {p : Pl} {ob : Obj} (h : InRows o most la lb W va vb) (hown1 : w1.ownsRow (o + 6) 35 5 v1 (lb.length + 1) (lb.flatMap Pl.cells5 ++ p.cells5)) (hgrow : (W.alloc ob).grownBy w1 vb.ownBlock) :
    Boxed w1 (o + 5) 43 vb ∧ InRows o most la (lb ++ [p]) (w1.setCell ⟨o + 5, 0, none⟩ v1) va v1 ∧ KeepsOthers W (w1.setCell ⟨o + 5, 0, none⟩ v1) ∧ (∀ k, k < W.heap.size → k ≠ o + 5 → vb.ownBlock ≠ some k → (w1.setCell ⟨o + 5, 0, none⟩ v1).heap[k]? = W.heap[k]?) ∧
      (∀ b w, b ≤ o + 5 → Below b w W → Below b w (w1.setCell ⟨o + 5, 0, none⟩ v1)) := by
  have hlt := h.b.lt
  obtain ⟨x1, x2, x3, x4, x5, x6⟩ := box_app h.b h.rb (by omega) (by omega) hown1 hgrow
  have bk : ∀ k, k < o + 6 → k ≠ o + 5 → (w1.setCell ⟨o + 5, 0, none⟩ v1).heap[k]? = W.heap[k]? := fun k hk hne => x5 k (by omega) hne (fun e => by have := (h.rb.lt k e).1; omega)
  refine ⟨x1, ⟨boxed_of_heap h.m (bk _ (by omega) (by omega)), boxed_of_heap h.r1 (bk _ (by omega) (by omega)), boxed_of_heap h.r2 (bk _ (by omega) (by omega)), boxed_of_heap h.r3 (bk _ (by omega) (by omega)), boxed_of_heap h.a (bk _ (by omega) (by omega)), x2, ?_, ?_⟩, x4, x5, x6⟩
  · exact ownsRow_of_heap h.ra fun k e => x5 k (h.ra.lt k e).2 (by have := (h.ra.lt k e).1; omega) (fun e' => rows_apart (by decide) h.ra h.rb k e e')
  · rw [List.length_append, List.flatMap_append]
    simpa using x3

end Go.Proofs.Ytompaldhnbcikaa
