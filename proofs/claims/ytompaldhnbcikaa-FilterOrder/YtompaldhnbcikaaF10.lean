/- The laws' R and Taken. Own work; no statement. -/
import Derived.Test.YtompaldhnbcikaaF9
import Derived.Test.YtompaldhnbcikaaR11
set_option linter.unusedSimpArgs false
set_option linter.unusedVariables false
namespace Go.Proofs.Ytompaldhnbcikaa
open Go.RowKit Go.Shelf

attribute [local go_sem] Oper.semAt_some

/-- The so-many-th record of site 1. -/
def rR (n : Int) : RecD := ⟨1, n, [], ⟨#[107]⟩, ⟨#[]⟩⟩

set_option maxHeartbeats 1000000 in
theorem lawR7_calls (n : Int) (w : World) :
    Calls Try.prog 26 #[.int .i64 n] w fun e w' => ∃ v, e = .returned v ∧ IsRec w' v (rR n) ∧ Below w.heap.size w w' := by
  go_enter Try.func26, Try.ntmps26
  go_wp2
  refine bodyPost_ret (v := .agg #[.int .i64 1, .int .i64 n, .slice none 0 0, .string ⟨#[107]⟩, .string ⟨#[]⟩]) (by simp [results, Try.f26, go_sem]) rfl ?_
  exact ⟨_, rfl, ⟨none, 0, rfl, IsNums.of_row (World.ownsRow_nil _ 0 3 1)⟩, box_below w _⟩

theorem takesF_sub : ∀ (k : Nat) (F : FilD), ∀ r ∈ (takesF k F).L, r ∈ F.L
  | 0, _, _, h => h
  | k + 1, F, r, h => by
    have := takesF_sub k (takeF F) r h
    exact (List.mem_filter.1 this).1
theorem readyL_mem {F : FilD} (hok : F.ok) (k : Nat) (h : k < (readyL F).length) : (readyL F)[k] ∈ F.L := by
  have := readyL_first hok k (by omega)
  rw [List.getElem?_eq_getElem h] at this
  exact takesF_sub k F _ (firstF_some this).1
theorem readyL_len {F : FilD} (hok : F.ok) : (readyL F).length ≤ 64 := by
  rcases Nat.lt_or_ge 64 (readyL F).length with h | h
  · have h1 := readyL_seq hok 64 h
    have h2 := hok.each _ (readyL_mem hok 64 h)
    have h3 := hok.room1
    omega
  · exact h

/-- What lies in the boxes of Taken, and in its row. -/
structure InT (p b o most : Nat) (l : List Pl) (W : World) (va : Value) : Prop where
  m : Boxed W o 3 (.int .i64 (most : Int))
  r1 : Boxed W (o + 1) 43 (.slice none 0 0)
  r2 : Boxed W (o + 2) 4 (.bool false)
  a : Boxed W (o + 4) 43 va
  row : W.ownsRow (o + 5) 35 5 va l.length (l.flatMap Pl.cells5)
  dep : ∀ q ∈ l, W.ownsRow 0 3 1 q.vd q.r.dep.length (q.r.dep.map (Value.int .i64)) ∧ ∀ c, q.vd.ownBlock = some c → c ≠ p ∧ c ≠ b
theorem InT.keep {p b o most : Nat} {l : List Pl} {W W' : World} {va : Value} (h : InT p b o most l W va) (hk : ∀ (k : Nat) (c : Array Value) (t : TypeId) (f : Nat × Nat), W.heap[k]? = some (.cells c t f) → k ≠ p → k ≠ b → W'.heap[k]? = W.heap[k]?) (hp : p < o) (hb : b < o) : InT p b o most l W' va :=
  ⟨boxed_of_heap h.m (hk _ _ _ _ h.m (by omega) (by omega)), boxed_of_heap h.r1 (hk _ _ _ _ h.r1 (by omega) (by omega)), boxed_of_heap h.r2 (hk _ _ _ _ h.r2 (by omega) (by omega)), boxed_of_heap h.a (hk _ _ _ _ h.a (by omega) (by omega)),
    ownsRow_of_heap h.row (fun k e => by
      have hl := (h.row.lt k e).1
      rcases h.row.2 with ⟨rfl, _⟩ | ⟨g, cap, cur, rfl, _, hg, _⟩
      · cases e
      · obtain rfl : g = k := by simpa [Value.ownBlock] using e
        exact hk _ _ _ _ hg (by omega) (by omega)),
    fun q hq => ⟨ownsRow_of_heap (h.dep q hq).1 (fun k e => by
      obtain ⟨h1, h2⟩ := (h.dep q hq).2 k e
      rcases (h.dep q hq).1.2 with ⟨e', _⟩ | ⟨g, cap, cur, e', _, hg, _⟩
      · rw [e'] at e; cases e
      · obtain rfl : g = k := by rw [e'] at e; simpa [Value.ownBlock] using e
        exact hk _ _ _ _ hg h1 h2), (h.dep q hq).2⟩⟩
/-- One more behind the others. -/
theorem InT.app {p b o most : Nat} {l : List Pl} {W w1 : World} {va v1 : Value} {x : Pl} {ob : Obj} (h : InT p b o most l W va) (hx : W.ownsRow 0 3 1 x.vd x.r.dep.length (x.r.dep.map (Value.int .i64)) ∧ ∀ c, x.vd.ownBlock = some c → c ≠ p ∧ c ≠ b)
    (hown1 : w1.ownsRow (o + 5) 35 5 v1 (l.length + 1) (l.flatMap Pl.cells5 ++ x.cells5)) (hgrow : (W.alloc ob).grownBy w1 va.ownBlock) :
    (Boxed w1 (o + 4) 43 va ∧ Boxed w1 o 3 (.int .i64 (most : Int)) ∧ Boxed w1 (o + 1) 43 (.slice none 0 0) ∧ Boxed w1 (o + 2) 4 (.bool false)) ∧ InT p b o most (l ++ [x]) (w1.setCell ⟨o + 4, 0, none⟩ v1) v1 ∧ KeepsOthers W (w1.setCell ⟨o + 4, 0, none⟩ v1) ∧ (∀ k, k < W.heap.size → k ≠ o + 4 → va.ownBlock ≠ some k → (w1.setCell ⟨o + 4, 0, none⟩ v1).heap[k]? = W.heap[k]?) ∧
      (∀ b w, b ≤ o + 4 → Below b w W → Below b w (w1.setCell ⟨o + 4, 0, none⟩ v1)) := by
  have hlt := h.a.lt
  obtain ⟨x1, x2, x3, x4, x5, x6⟩ := box_app h.a h.row (by omega) (by omega) hown1 hgrow
  have bk : ∀ k, k < o + 5 → k ≠ o + 4 → (w1.setCell ⟨o + 4, 0, none⟩ v1).heap[k]? = W.heap[k]? := fun k hk hne => x5 k (by omega) hne (fun e => by have := (h.row.lt k e).1; omega)
  have dp : ∀ q : Pl, (W.ownsRow 0 3 1 q.vd q.r.dep.length (q.r.dep.map (Value.int .i64)) ∧ ∀ c, q.vd.ownBlock = some c → c ≠ p ∧ c ≠ b) → ((w1.setCell ⟨o + 4, 0, none⟩ v1).ownsRow 0 3 1 q.vd q.r.dep.length (q.r.dep.map (Value.int .i64)) ∧ ∀ c, q.vd.ownBlock = some c → c ≠ p ∧ c ≠ b) := fun q hq =>
    ⟨ownsRow_of_heap hq.1 (fun k e => x5 k (hq.1.lt k e).2 (by
      rintro rfl
      have ha := h.a
      rcases hq.1.2 with ⟨e', _⟩ | ⟨g, cap, cur, e', _, hg, _⟩
      · rw [e'] at e; cases e
      · obtain rfl : g = o + 4 := by rw [e'] at e; simpa [Value.ownBlock] using e
        unfold Boxed at ha
        rw [ha] at hg
        simp only [Option.some.injEq, Obj.cells.injEq] at hg
        exact absurd hg.2.1 (by decide)) (fun e' => rows_apart (by decide) hq.1 h.row k e e')), hq.2⟩
  have nb : ∀ B, B < o + 5 → some B ≠ va.ownBlock := fun B hB e' => by have := (h.row.lt B e'.symm).1; omega
  refine ⟨⟨x1, (h.m.alloc ob).kept hgrow (nb _ (by omega)), (h.r1.alloc ob).kept hgrow (nb _ (by omega)), (h.r2.alloc ob).kept hgrow (nb _ (by omega))⟩, ⟨boxed_of_heap h.m (bk _ (by omega) (by omega)), boxed_of_heap h.r1 (bk _ (by omega) (by omega)), boxed_of_heap h.r2 (bk _ (by omega) (by omega)), x2, ?_, ?_⟩, x4, x5, x6⟩
  · rw [List.length_append, List.flatMap_append]
    simpa using x3
  · intro q hq
    rcases List.mem_append.1 hq with hq | hq
    · exact dp q (h.dep q hq)
    · rw [List.mem_singleton.1 hq]
      exact dp x hx

theorem dep_set {W : World} {B : Nat} {t : TypeId} {v : Value} (hb : Boxed W B t v) (ht : t ≠ 3) {vd : Value} {n : Nat} {xs : List Value} (h : W.ownsRow 0 3 1 vd n xs) (v' : Value) : (W.setCell ⟨B, 0, none⟩ v').ownsRow 0 3 1 vd n xs :=
  ownsRow_of_heap h fun k e => Below.heap_setCell _ _ _ _ (by
    intro hkB
    have e3 : k = B := hkB
    rcases h.2 with ⟨e', _⟩ | ⟨g, cap, cur, e', _, hg, _⟩
    · rw [e'] at e; cases e
    · obtain rfl : g = k := by rw [e'] at e; simpa [Value.ownBlock] using e
      unfold Boxed at hb
      rw [← e3, hg] at hb
      simp only [Option.some.injEq, Obj.cells.injEq] at hb
      exact ht hb.2.1.symm)
/-- The results stored. -/
theorem InT.end {p b o most : Nat} {l : List Pl} {W : World} {va : Value} (h : InT p b o most l W va) :
    Boxed ((W.setCell ⟨o + 1, 0, none⟩ va).setCell ⟨o + 2, 0, none⟩ (.bool true)) (o + 1) 43 va ∧ Boxed ((W.setCell ⟨o + 1, 0, none⟩ va).setCell ⟨o + 2, 0, none⟩ (.bool true)) (o + 2) 4 (.bool true) ∧
    ((W.setCell ⟨o + 1, 0, none⟩ va).setCell ⟨o + 2, 0, none⟩ (.bool true)).ownsRow (o + 5) 35 5 va l.length (l.flatMap Pl.cells5) ∧
    (∀ q ∈ l, ((W.setCell ⟨o + 1, 0, none⟩ va).setCell ⟨o + 2, 0, none⟩ (.bool true)).ownsRow 0 3 1 q.vd q.r.dep.length (q.r.dep.map (Value.int .i64))) ∧
    KeepsOthers W ((W.setCell ⟨o + 1, 0, none⟩ va).setCell ⟨o + 2, 0, none⟩ (.bool true)) ∧ (∀ c, c ≠ o + 1 → c ≠ o + 2 → ((W.setCell ⟨o + 1, 0, none⟩ va).setCell ⟨o + 2, 0, none⟩ (.bool true)).heap[c]? = W.heap[c]?) := by
  have r2 : Boxed (W.setCell ⟨o + 1, 0, none⟩ va) (o + 2) 4 (.bool false) := boxed_of_heap h.r2 (Below.heap_setCell _ _ _ _ (by simp))
  have oth : ∀ c, c ≠ o + 1 → c ≠ o + 2 → ((W.setCell ⟨o + 1, 0, none⟩ va).setCell ⟨o + 2, 0, none⟩ (.bool true)).heap[c]? = W.heap[c]? := fun c h1 h2 => (Below.heap_setCell _ _ _ _ h2).trans (Below.heap_setCell _ _ _ _ h1)
  exact ⟨boxed_of_heap (h.r1.set va) (Below.heap_setCell _ _ _ _ (by simp)), r2.set _, ownsRow_of_heap h.row fun k e => oth k (by have := (h.row.lt k e).1; omega) (by have := (h.row.lt k e).1; omega),
    fun q hq => dep_set r2 (by decide) (dep_set h.r1 (by decide) (h.dep q hq).1 _) _, (KeepsOthers.setCell _ _ _).trans (KeepsOthers.setCell _ _ _), oth⟩
/-- What the filter's sequence needs of a round: the first part. -/
theorem InT.kp {p b o most : Nat} {l : List Pl} {W W' : World} {va : Value} (h : InT p b o most l W va) (hp : p < o) (hb : b < o) (h1 : ∀ k, k < W.heap.size → k ≠ o + 4 → va.ownBlock ≠ some k → W'.heap[k]? = W.heap[k]?) : KpF p b (o + 3) W W' := by
  have hl := h.a.lt
  have nb : ∀ B, B < o + 5 → va.ownBlock ≠ some B := fun B hB e' => by have := (h.row.lt B e').1; omega
  refine ⟨fun c hc => ?_, fun k c e => h1 k (ltAt e) ?_ ?_⟩
  · rcases hc with rfl | rfl | rfl <;> exact h1 _ (by omega) (by omega) (nb _ (by omega))
  · rintro rfl
    have ha := h.a
    unfold Boxed at ha
    rw [ha] at e
    simp only [Option.some.injEq, Obj.cells.injEq] at e
    exact absurd e.2.1 (by decide)
  · intro e'
    rcases h.row.2 with ⟨rfl, _⟩ | ⟨g, cap, cur, rfl, _, hg, _⟩
    · cases e'
    · obtain rfl : g = k := by simpa [Value.ownBlock] using e'
      rw [hg] at e
      simp only [Option.some.injEq, Obj.cells.injEq] at e
      exact absurd e.2.1 (by decide)

/-- The four boxes that are there ahead of the range, and what was there. -/
structure InT0 (p most' : Int) (P0 : Nat) (w W : World) : Prop where
  m : Boxed W w.heap.size 3 (.int .i64 most')
  r1 : Boxed W (w.heap.size + 1) 43 (.slice none 0 0)
  r2 : Boxed W (w.heap.size + 2) 4 (.bool false)
  x : Boxed W (w.heap.size + 3) 25 (.pointer (some ⟨P0, 0, none⟩))
  sz : W.heap.size = w.heap.size + 4
  b : Below w.heap.size w W
theorem inT0_made (most' : Int) (P0 : Nat) (w : World) : InT0 0 most' P0 w ((((w.alloc (.cells #[.int .i64 most'] 3)).alloc (.cells #[.slice none 0 0] 43)).alloc (.cells #[.bool false] 4)).alloc (.cells #[.pointer (some ⟨P0, 0, none⟩)] 25)) :=
  ⟨(((Boxed.new w _ _).alloc _).alloc _).alloc _, ((boxed_new' (by simp)).alloc _).alloc _, (boxed_new' (by simp)).alloc _, boxed_new' (by simp), by simp, ((((Below.refl _ w).alloc (Nat.le_refl _) _).alloc (by simp) _).alloc (by simp; omega) _).alloc (by simp; omega) _⟩

set_option maxRecDepth 100000 in
set_option maxHeartbeats 4000000 in
theorem taken_none (p b : Nat) (F : FilD) (most : Int) (hm : most ≤ 0) (w : World) (hf : IsFil w p b F) :
    Calls Try.prog 15 #[.pointer (some ⟨p, 0, none⟩), .int .i64 most] w fun e w' => e = .returned (.tuple #[.slice none 0 0, .bool true]) ∧ Below w.heap.size w w' := by
  have heq : ∀ (fn : Fn) (first cap : Array Value) (w : World), (binOp .eql 74 (.func fn first cap) .nilFunc).run Try.prog w = .ok (.bool false) w := fun _ _ _ _ => by kernel_rfl
  refine (callsIn_wide (n := 9)).1 ?_
  refine callsIn_of_wp_marks Try.func15 rfl trivial ?_ rfl
  simp only [Try.ntmps15, List.size_toArray, List.length_cons, List.length_nil, Nat.reduceAdd, Nat.reduceSub, Array.replicate_succ, Array.replicate_zero, List.push_toArray, List.append_toArray, List.nil_append, List.cons_append]
  have h0 := inT0_made most p w
  gi_wp2_with (refine ⟨trivial, ?_⟩; gi_at_call 31; refine ((callsIn_wide (n := _)).2 (ready_calls _ _)).mono ?_; rintro en w' ⟨rfl, rfl⟩; obtain ⟨W4, hW4⟩ : ∃ W4, ((((w.alloc (.cells #[.int .i64 most] 3)).alloc (.cells #[.slice none 0 0] 43)).alloc (.cells #[.bool false] 4)).alloc (.cells #[.pointer (some ⟨p, 0, none⟩)] 25)) = W4 := ⟨_, rfl⟩; rw [hW4] at h0; rw [hW4]; clear hW4; have cm := (h0.m.alloc (.cells #[.slice none 0 0] 43)).cell; have c1 := (h0.r1.alloc (.cells #[.slice none 0 0] 43)).cell; have g1 := (h0.r1.alloc (.cells #[.slice none 0 0] 43)).frozen; have c2 := (h0.r2.alloc (.cells #[.slice none 0 0] 43)).cell; have g2 := (h0.r2.alloc (.cells #[.slice none 0 0] 43)).frozen; (try simp only [World.size_alloc, Nat.add_assoc, Nat.reduceAdd]))
  have r1 := (h0.r1.alloc (.cells #[.slice none 0 0] 43)).set (.slice none 0 0)
  have r2 := boxed_of_heap (h0.r2.alloc (.cells #[.slice none 0 0] 43)) (Below.heap_setCell _ ⟨w.heap.size + 1, 0, none⟩ (.slice none 0 0) (w.heap.size + 2) (by simp))
  have k1 := (boxed_of_heap r1 (Below.heap_setCell _ ⟨w.heap.size + 2, 0, none⟩ (.bool true) (w.heap.size + 1) (by simp))).cell
  have k2 := (r2.set (.bool true)).cell
  refine ⟨.tuple #[.slice none 0 0, .bool true], by simp [results, Try.f15, go_sem, k1, k2], rfl, ?_⟩
  exact (((h0.b.alloc (by rw [h0.sz]; omega) _).setCell (p := ⟨w.heap.size + 1, 0, none⟩) (by simp) _).setCell (p := ⟨w.heap.size + 2, 0, none⟩) (by simp) _)

/-- A row of records of one's own, each one's numbers in a row of their own. -/
def HasL (w : World) (v : Value) (L : List RecD) : Prop :=
  ∃ l : List Pl, l.map (·.r) = L ∧ w.ownsRow 0 35 5 v l.length (l.flatMap Pl.cells5) ∧ ∀ q ∈ l, w.ownsRow 0 3 1 q.vd q.r.dep.length (q.r.dep.map (Value.int .i64))

set_option maxRecDepth 100000 in
set_option maxHeartbeats 4000000 in
theorem taken_some (p b : Nat) (F : FilD) (most : Nat) (hm : 1 ≤ most) (hm2 : most ≤ 9223372036854775807) (w : World) (hf : IsFil w p b F) :
    Calls Try.prog 15 #[.pointer (some ⟨p, 0, none⟩), .int .i64 (most : Int)] w fun e w' => ∃ v, e = .returned (.tuple #[v, .bool true]) ∧ HasL w' v ((readyL F).take most) ∧ IsFil w' p b (takesF (min most (readyL F).length) F) ∧ Touch (onFil p b) w w' := by
  have heq : ∀ (fn : Fn) (first cap : Array Value) (w : World), (binOp .eql 74 (.func fn first cap) .nilFunc).run Try.prog w = .ok (.bool false) w := fun _ _ _ _ => by kernel_rfl
  obtain ⟨j0, ji, jz0, jz1, jz2⟩ := info_parts Try.info35
  have hok := hf.ok
  have hlen := readyL_len hok
  have hpl := hf.lt
  have hbl := hf.ltb
  have hf' := hide hf
  clear hf
  refine (callsIn_wide (n := 9)).1 ?_
  refine callsIn_of_wp_marks Try.func15 rfl trivial ?_ rfl
  simp only [Try.ntmps15, List.size_toArray, List.length_cons, List.length_nil, Nat.reduceAdd, Nat.reduceSub, Array.replicate_succ, Array.replicate_zero, List.push_toArray, List.append_toArray, List.nil_append, List.cons_append]
  have h0 := inT0_made (most : Int) p w
  have hm0 : ¬ (most : Int) ≤ 0 := by omega
  gi_wp2_with (refine ⟨trivial, ?_⟩; gi_at_call 31; refine ((callsIn_wide (n := _)).2 (ready_calls _ _)).mono ?_; rintro en w' ⟨rfl, rfl⟩; obtain ⟨W4, hW4⟩ : ∃ W4, ((((w.alloc (.cells #[.int .i64 (most : Int)] 3)).alloc (.cells #[.slice none 0 0] 43)).alloc (.cells #[.bool false] 4)).alloc (.cells #[.pointer (some ⟨p, 0, none⟩)] 25)) = W4 := ⟨_, rfl⟩; rw [hW4] at h0; rw [hW4]; clear hW4; have cm := (h0.m.alloc (.cells #[.slice none 0 0] 43)).cell; (try simp only [World.size_alloc, Nat.add_assoc, Nat.reduceAdd]))
  have sz4 := h0.sz
  have y0 := h0.m.alloc (.cells #[.slice none 0 0] 43)
  have y1 := h0.r1.alloc (.cells #[.slice none 0 0] 43)
  have y2 := h0.r2.alloc (.cells #[.slice none 0 0] 43)
  have y3 := h0.x.alloc (.cells #[.slice none 0 0] 43)
  have y4 := Boxed.new W4 43 (.slice none 0 0)
  rw [sz4] at y4
  have hB5 := h0.b.alloc (by omega) (.cells #[.slice none 0 0] 43)
  rw [sz4]
  obtain ⟨W5, hW5⟩ : ∃ W5, W4.alloc (.cells #[.slice none 0 0] 43) = W5 := ⟨_, rfl⟩
  have sz5 : W5.heap.size = w.heap.size + 5 := by rw [← hW5]; simp [sz4]
  rw [hW5] at y0 y1 y2 y3 y4 hB5
  rw [hW5]
  clear hW5 h0 cm sz4
  have hst : StF p b (w.heap.size + 3) F 0 W5 := ⟨hf'.out.keep hB5, y3⟩
  refine range_lawQ (by decide) (gf := 43) (lb := #[.pointer (some ⟨w.heap.size + 3, 0, none⟩)]) rfl (enters_of Try.func43 (by kernel_rfl) rfl)
    (ready_seq (w.heap.size + 3) p b F W5 hst) (by rintro c (rfl | rfl) <;> omega) kpF_t (kpF_b (by omega) (by omega) (by omega)) (StF.own (by omega)) (fun v => GvF.own v)
    (fun k T W => ∃ (va : Value) (l : List Pl), T = (fun c => c = w.heap.size + 4 ∨ va.ownBlock = some c) ∧ l.map (·.r) = (readyL F).take k ∧ k < most ∧ k ≤ (readyL F).length ∧ InT p b w.heap.size most l W va ∧ Touch (onFil p b) w W ∧ w.heap.size + 5 ≤ W.heap.size)
    (fun c k W => c = .ret ∧ k = most ∧ k ≤ (readyL F).length ∧ ∃ (va : Value) (l : List Pl), l.map (·.r) = (readyL F).take k ∧ Boxed W (w.heap.size + 1) 43 va ∧ Boxed W (w.heap.size + 2) 4 (.bool true) ∧ W.ownsRow (w.heap.size + 5) 35 5 va l.length (l.flatMap Pl.cells5) ∧ (∀ q ∈ l, W.ownsRow 0 3 1 q.vd q.r.dep.length (q.r.dep.map (Value.int .i64))) ∧ Touch (onFil p b) w W ∧ w.heap.size + 5 ≤ W.heap.size)
    ?hI ?hIT ?hIX ?hIx ?h0
    (fun v a' Z => ∃ (Bx : Nat) (z1 z2 : Int) (z3 : Option Addr) (z4 z5 : Nat) (z6 z7 : ByteArray), v = .agg #[.int .i64 z1, .int .i64 z2, .slice z3 z4 z5, .string z6, .string z7] ∧ Z.heap[Bx]? = some (.cells #[.int .i64 z1, .int .i64 z2, .slice z3 z4 z5, .string z6, .string z7] 35 (0, 0)) ∧ a' = { tmps := #[.pointer (some ⟨p, 0, none⟩), .int .i64 (most : Int), undef, .pointer (some ⟨w.heap.size, 0, none⟩), .pointer (some ⟨w.heap.size + 1, 0, none⟩), .pointer (some ⟨w.heap.size + 2, 0, none⟩), .func (.func 43) #[] #[.pointer (some ⟨w.heap.size + 3, 0, none⟩)], .pointer (some ⟨w.heap.size + 4, 0, none⟩), .pointer (some ⟨Bx, 0, none⟩), .pointer (some ⟨p, 0, none⟩), .func (.func 43) #[] #[.pointer (some ⟨w.heap.size + 3, 0, none⟩)], .func (.func 43) #[] #[.pointer (some ⟨w.heap.size + 3, 0, none⟩)], .bool false, .int .i64 (most : Int), .bool false, .func (.func 43) #[] #[.pointer (some ⟨w.heap.size + 3, 0, none⟩)], v, undef, undef, undef, undef, undef, undef, undef, undef, undef, undef], defers := [] })
    ?hAx ?assign (fun A B hb h => kpF_n hb (by omega) (by omega) (by omega)) (fun k v A B h hb => h.keep fun i c e => hb.block i (ltAt e)) (fun k A B h hb => h.below hb) ?hIz ?body ?done ?stop
  case hI =>
    rintro T k A B row ⟨va, l, h1, h2, h3, h4, h5, h6, h7⟩ hg hr
    exact ⟨va, l, h1, h2, h3, h4, h5.keep (fun k c t f e _ _ => own_keeps hg (fun r e => (hr r e).2) e) (by omega) (by omega), ownFrom_touch (β := Unit) (show w.heap.size ≤ W5.heap.size by omega) () A B row h6 hg hr, Nat.le_trans h7 hg.size⟩
  case hIT =>
    rintro k T W ⟨va, l, rfl, h2, h3, h4, h5, h6, h7⟩ c (rfl | hc)
    · omega
    · exact (h5.row.lt c hc).2
  case hIX =>
    rintro k T A B ⟨va, l, h1, h2, h3, h4, h5, h6, h7⟩ ht
    exact ⟨va, l, h1, h2, h3, h4, h5.keep (fun k c t f e n1 n2 => ht.block k (ltAt e) (by rintro (e | e); exact n1 e; exact n2 e)) (by omega) (by omega), h6.trans ht, Nat.le_trans h7 ht.size⟩
  case hIx =>
    rintro c k A B row ⟨h1, h2, h3, va, l, h4, h5, h6, h7, h8, h9, h10⟩ hg hr
    exact ⟨h1, h2, h3, va, l, h4, boxed_own' hg (fun r e => (hr r e).2) h5, boxed_own' hg (fun r e => (hr r e).2) h6, ownsRow_own' hg (fun r e => (hr r e).2) h7, fun q hq => ownsRow_own' hg (fun r e => (hr r e).2) (h8 q hq), ownFrom_touch (β := Unit) (show w.heap.size ≤ W5.heap.size by omega) () A B row h9 hg hr, Nat.le_trans h10 hg.size⟩
  case h0 =>
    exact ⟨_, .slice none 0 0, [], rfl, rfl, by omega, Nat.zero_le _, ⟨y0, y1, y2, y4, World.ownsRow_nil _ _ _ _, fun q hq => (by cases hq)⟩, touch_new hB5, by omega⟩
  case hAx =>
    rintro v a' _ A B row ⟨Bx, z1, z2, z3, z4, z5, z6, z7, h1, h2, h3⟩ hg hr
    exact ⟨Bx, z1, z2, z3, z4, z5, z6, z7, h1, (own_keeps hg (fun r e => (hr r e).2) h2).trans h2, h3⟩
  case hIz =>
    rintro k T W ⟨va, l, h1, h2, h3, h4, h5, h6, h7⟩
    omega
  case assign =>
    rintro l0 k T v X K - ⟨r, -, vd, rfl, hr⟩ hK
    obtain ⟨a, cap, rfl⟩ := ownsRow_slice hr
    replace hK := hide hK
    clear hr
    gi_wp2
    exact hK.out _ _ (box_below X _) ⟨X.heap.size, r.site, r.seq, a, r.dep.length, cap, r.key, r.val, rfl, World.alloc_heap_new X _, rfl⟩
  case body =>
    rintro l0 k T v a' X hl1 ⟨rl, hrl⟩ ⟨va, l, rfl, hlm, hkm, hkl, hin, ht, hXs⟩ hst ⟨r, hrk, hrv⟩ ⟨Bx, z1, z2, z3, z4, z5, z6, z7, rfl, hbx, rfl⟩
    obtain ⟨vd, e, hvr⟩ := hrv
    have e2 : z1 = r.site ∧ z2 = r.seq ∧ .slice z3 z4 z5 = vd ∧ z6 = r.key ∧ z7 = r.val := by
      have e2 := e
      simp at e2
      exact e2
    obtain ⟨rfl, rfl, rfl, rfl, rfl⟩ := e2
    clear e
    have hkl' : k < (readyL F).length := (List.getElem?_eq_some_iff.1 hrk).1
    have hll : l.length = k := by
      have := congrArg List.length hlm
      simp at this
      omega
    have hx : X.ownsRow 0 3 1 (.slice z3 z4 z5) r.dep.length (r.dep.map (Value.int .i64)) ∧ ∀ c, (Value.slice z3 z4 z5).ownBlock = some c → c ≠ p ∧ c ≠ b := by
      refine ⟨hvr, fun c hc => ?_⟩
      rcases hvr.2 with ⟨e', _⟩ | ⟨g, cap, cur, e', _, hg, _⟩
      · rw [e'] at hc; cases hc
      · obtain rfl : g = c := by rw [e'] at hc; simpa [Value.ownBlock] using hc
        constructor
        · rintro rfl
          rw [hst.1.head] at hg
          simp only [Option.some.injEq, Obj.cells.injEq] at hg
          exact absurd hg.2.1 (by decide)
        · rintro rfl
          obtain ⟨M, -, m2, -⟩ := hst.1.held
          exact m2.not_cells hg
    have hma : (l ++ [(⟨0, r, .slice z3 z4 z5⟩ : Pl)]).map (·.r) = (readyL F).take (k + 1) := by
      rw [List.map_append, hlm, List.take_succ_eq_append_getElem hkl']
      simp [(List.getElem?_eq_some_iff.1 hrk).2]
    obtain ⟨x0, x1, x2, x3, x4, -, -, -, -, -⟩ := cells5F hbx
    obtain ⟨pa, ca, rfl⟩ := ownsRow_slice hin.row
    have ca0 := hin.a.cell
    have Hx := hide hx
    have Hin := hide hin
    have Hst := hide hst
    have Hma := hide hma
    have Ht := hide ht
    rw [hll] at ca0
    clear hx hin hma hlm ht hst hvr hbx hrk
    have hop := hide hll
    by_cases hge : (most : Int) ≤ (k : Int) + 1
    · gi_wp2_with (gi_at_builtin; refine wpListIn_append_own_at _ rfl (.tmp 17) _ 43 rfl (w.heap.size + 5) 35 j0 _ 5 72 Try.underlying43 ji jz0 jz1 jz2 rfl (by decide) _ _ _ (by rw [← hop.out]; rfl) (World.ownsRow.alloc Hin.out.row _) ⟨_, 0, none⟩ 1 1 [.int .i64 r.site, .int .i64 r.seq, .slice z3 z4 z5, .string r.key, .string r.val] rfl rfl (cells_new (by simp)) (by intro u hu; simp at hu; rcases hu with rfl | rfl | rfl | rfl | rfl <;> rfl) (by unfold maxLen; omega) (by omega) (by simp; omega) ?_; intro v1 w1 hown1 hgrow1 _ hat1; obtain ⟨g1, cap1, rfl⟩ := ownsRow_succ hown1; obtain ⟨⟨bx1, bm1, br1, br2⟩, hin1, k1, o1, l1⟩ := Hin.out.app (x := ⟨0, r, .slice z3 z4 z5⟩) Hx.out hown1 hgrow1; have d1 := bx1.cell; have f1 := bx1.frozen; have d2 := bm1.cell; have d3 := br1.cell; have f3 := br1.frozen; have d4 := br2.cell; have f4 := br2.frozen; have Hin1 := hide hin1; have Hk1 := hide k1; have Ho1 := hide o1; have Hl1 := hide l1; have Hat1 := hide hat1; rw [hop.out]; clear hgrow1 hat1 hown1 hin1 l1 o1 k1)
      have hop2 := hop.out
      subst hop2
      obtain ⟨n1, n2, n3, n4, n5, n6⟩ := Hin1.out.end
      have hw2 : KpF p b (w.heap.size + 3) X ((w1.setCell ⟨w.heap.size + 4, 0, none⟩ (.slice (some ⟨g1, 0, none⟩) (l.length + 1) cap1)).setCell ⟨w.heap.size + 1, 0, none⟩ (.slice (some ⟨g1, 0, none⟩) (l.length + 1) cap1) |>.setCell ⟨w.heap.size + 2, 0, none⟩ (.bool true)) := by
        refine kpF_t (Hin.out.kp hpl hbl Ho1.out) ⟨fun c hc => n6 c (by rcases hc with rfl | rfl | rfl <;> omega) (by rcases hc with rfl | rfl | rfl <;> omega), fun c cs e => n6 c ?_ ?_⟩
        · rintro rfl
          have := Hin1.out.r1
          unfold Boxed at this
          rw [this] at e
          simp only [Option.some.injEq, Obj.cells.injEq] at e
          exact absurd e.2.1 (by decide)
        · rintro rfl
          have := Hin1.out.r2
          unfold Boxed at this
          rw [this] at e
          simp only [Option.some.injEq, Obj.cells.injEq] at e
          exact absurd e.2.1 (by decide)
      have hlow := ((Hl1.out w.heap.size X (by omega) (Below.refl _ X)).setCell (p := ⟨w.heap.size + 1, 0, none⟩) (by simp) (.slice (some ⟨g1, 0, none⟩) (l.length + 1) cap1)).setCell (p := ⟨w.heap.size + 2, 0, none⟩) (by simp) (.bool true)
      exact ⟨(Hk1.out.trans n5).from _, hw2, rfl, by omega, by omega, _, _, Hma.out, n1, n2, n3, n4, Ht.out.upper (touch_of_below (S := fun c => w.heap.size ≤ c) hlow fun _ _ h => h) fun _ h => h, by have := hlow.size; omega⟩
    · gi_wp2_with (gi_at_builtin; refine wpListIn_append_own_at _ rfl (.tmp 17) _ 43 rfl (w.heap.size + 5) 35 j0 _ 5 72 Try.underlying43 ji jz0 jz1 jz2 rfl (by decide) _ _ _ (by rw [← hop.out]; rfl) (World.ownsRow.alloc Hin.out.row _) ⟨_, 0, none⟩ 1 1 [.int .i64 r.site, .int .i64 r.seq, .slice z3 z4 z5, .string r.key, .string r.val] rfl rfl (cells_new (by simp)) (by intro u hu; simp at hu; rcases hu with rfl | rfl | rfl | rfl | rfl <;> rfl) (by unfold maxLen; omega) (by omega) (by simp; omega) ?_; intro v1 w1 hown1 hgrow1 _ hat1; obtain ⟨g1, cap1, rfl⟩ := ownsRow_succ hown1; obtain ⟨⟨bx1, bm1, br1, br2⟩, hin1, k1, o1, l1⟩ := Hin.out.app (x := ⟨0, r, .slice z3 z4 z5⟩) Hx.out hown1 hgrow1; have d1 := bx1.cell; have f1 := bx1.frozen; have d2 := bm1.cell; have d3 := br1.cell; have f3 := br1.frozen; have d4 := br2.cell; have f4 := br2.frozen; have Hin1 := hide hin1; have Hk1 := hide k1; have Ho1 := hide o1; have Hl1 := hide l1; have Hat1 := hide hat1; rw [hop.out]; clear hgrow1 hat1 hown1 hin1 l1 o1 k1)
      have hop2 := hop.out
      subst hop2
      have hlow := Hl1.out w.heap.size X (by omega) (Below.refl _ X)
      rw [← sz5]
      refine ⟨⟨_, ⟨_, rfl, _, Hma.out, by omega, by omega, Hin1.out, Ht.out.upper (touch_of_below (S := fun c => w.heap.size ≤ c) hlow fun _ _ h => h) fun _ h => h, by have := hlow.size; omega⟩, ⟨Hk1.out.from _, fun c h1 h2 h3 => Ho1.out c h2 (fun e => h3 (.inl e)) (fun e => h3 (.inr e)), fun c h1 h2 => ?_⟩⟩, Hin.out.kp hpl hbl Ho1.out⟩
      rcases h2 with h2 | h2
      · exact .inl h2
      · rcases Hat1.out with h3 | h3
        · exact .inr (h3.symm.trans h2)
        · rw [h3] at h2
          simp at h2
          omega
  case done =>
    rintro D k T X hD rfl ⟨va, l, rfl, hlm, hkm, hkl, hin, ht, hXs⟩ hst2 hK
    obtain ⟨pa, ca, rfl⟩ := ownsRow_slice hin.row
    have c4 := hin.a.cell
    have c1 := hin.r1.cell
    have f1 := hin.r1.frozen
    have c2 := hin.r2.cell
    have f2 := hin.r2.frozen
    have Hin := hide hin
    have Ht := hide ht
    have Hlm := hide hlm
    have Hst := hide hst2
    have HK := hide hK
    clear hin ht hlm hst2 hK
    gi_wp2
    obtain ⟨n1, n2, n3, n4, n5, n6⟩ := Hin.out.end
    have hl4 := Hin.out.a.lt
    have hK2 := n5.same D _ HK.out rfl
    have hst2 : StF p b (w.heap.size + 3) F (readyL F).length ((X.setCell ⟨w.heap.size + 1, 0, none⟩ (.slice pa l.length ca)).setCell ⟨w.heap.size + 2, 0, none⟩ (.bool true)) := by
      refine Hst.out.kp ⟨fun c hc => n6 c (by rcases hc with rfl | rfl | rfl <;> omega) (by rcases hc with rfl | rfl | rfl <;> omega), fun c cs e => n6 c ?_ ?_⟩
      · rintro rfl
        have := Hin.out.r1
        unfold Boxed at this
        rw [this] at e
        simp only [Option.some.injEq, Obj.cells.injEq] at e
        exact absurd e.2.1 (by decide)
      · rintro rfl
        have := Hin.out.r2
        unfold Boxed at this
        rw [this] at e
        simp only [Option.some.injEq, Obj.cells.injEq] at e
        exact absurd e.2.1 (by decide)
    have ht2 : Touch (onFil p b) w ((X.setCell ⟨w.heap.size + 1, 0, none⟩ (.slice pa l.length ca)).setCell ⟨w.heap.size + 2, 0, none⟩ (.bool true)) :=
      Ht.out.upper (touch_of_below (S := fun c => w.heap.size ≤ c) (((Below.refl w.heap.size X).setCell (p := ⟨w.heap.size + 1, 0, none⟩) (by simp) _).setCell (p := ⟨w.heap.size + 2, 0, none⟩) (by simp) _) fun _ _ h => h) fun _ h => h
    have hrecs := Hlm.out
    obtain ⟨W2, hW2⟩ : ∃ W2, (X.setCell ⟨w.heap.size + 1, 0, none⟩ (.slice pa l.length ca)).setCell ⟨w.heap.size + 2, 0, none⟩ (.bool true) = W2 := ⟨_, rfl⟩
    rw [hW2] at n1 n2 n3 n4 hK2 hst2 ht2
    rw [hW2]
    clear hW2 n5 n6
    have hg := grownBy_putObj' W2 D (.deferred none)
    have hr : ∀ r, some D = some r → ∃ o : Obj, W2.heap[r]? = some o ∧ o.isCells = false := fun r e => by cases e; exact ⟨_, hK2, rfl⟩
    have Q1 := (boxed_own' hg hr n1).cell
    have Q2 := (boxed_own' hg hr n2).cell
    refine ⟨by simp, .inl ⟨_, _, rfl, run_takeDeferred hK2, ?_⟩⟩
    refine ⟨.tuple #[.slice pa l.length ca, .bool true], by simp [results, Try.f15, go_sem, Q1, Q2], _, rfl, ?_, ?_, (ownFrom_touch (β := Unit) (show w.heap.size ≤ W5.heap.size by omega)).putObj (s := ()) _ ht2 (by omega) hK2 rfl⟩
    · refine ⟨l, ?_, ownsRow_low (ownsRow_own' hg hr n3) (Nat.zero_le _), fun q hq => ownsRow_own' hg hr (n4 q hq)⟩
      rw [hrecs, List.take_length, List.take_of_length_le (by omega)]
    · rw [show min most (readyL F).length = (readyL F).length by omega]
      exact ((StF.own (show b < W5.heap.size by omega)).putObj (s := (readyL F).length) _ hst2 (by omega) hK2 rfl).1
  case stop =>
    rintro D c k X hD ⟨rfl, hkm, hkl, va, l, hlm, h1, h2, h3, h4, h5, h6⟩ hst2 hK
    obtain ⟨pa, ca, rfl⟩ := ownsRow_slice h3
    have hg := grownBy_putObj' X D (.deferred none)
    have hr : ∀ r, some D = some r → ∃ o : Obj, X.heap[r]? = some o ∧ o.isCells = false := fun r e => by cases e; exact ⟨_, hK, rfl⟩
    have Q1 := (boxed_own' hg hr h1).cell
    have Q2 := (boxed_own' hg hr h2).cell
    subst hkm
    gi_wp2
    refine ⟨by simp, .inl ⟨_, _, rfl, run_takeDeferred hK, ?_⟩⟩
    refine ⟨.tuple #[.slice pa l.length ca, .bool true], by simp [results, Try.f15, go_sem, Q1, Q2], _, rfl, ?_, ?_, (ownFrom_touch (β := Unit) (show w.heap.size ≤ W5.heap.size by omega)).putObj (s := ()) _ h5 (by omega) hK rfl⟩
    · exact ⟨l, hlm, ownsRow_low (ownsRow_own' hg hr h3) (Nat.zero_le _), fun q hq => ownsRow_own' hg hr (h4 q hq)⟩
    · rw [show min k (readyL F).length = k by omega]
      exact ((StF.own (show b < W5.heap.size by omega)).putObj (s := k) _ hst2 (by omega) hK rfl).1

end Go.Proofs.Ytompaldhnbcikaa
