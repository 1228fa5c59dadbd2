/- Own work: the parts F10, F11, RF4, F12, F13, F14, F15, W10, W15, R12 of the proof, laid together. -/
import Derived.Test.YtompaldhnbcikaaPartFilterPlays5
import Derived.Test.YtompaldhnbcikaaPartFilterPlays2
/- The laws' R and Taken. Own work; no statement. -/
set_option linter.unusedSimpArgs false
set_option linter.unusedVariables false
namespace Go.Proofs.Ytompaldhnbcikaa
open Go.RowKit Go.Shelf

attribute [local go_sem] Oper.semAt_some

/-- The so-many-th record of site 1. -/
def rR (n : Int) : RecD := ⟨1, n, [], ⟨#[107]⟩, ⟨#[]⟩⟩

set_option maxHeartbeats 1000000 in
theorem lawR7_calls (n : Int) (w : World) :
    Calls Try.prog 26 #[.int .i64 n] w fun e w' => ∃ v, e = .returned v ∧ IsRec w' v (rR n) ∧ Below w.heap.size w w' := by
  go_enter Try.func26, Try.ntmps26
  go_wp2
  refine bodyPost_ret (v := .agg #[.int .i64 1, .int .i64 n, .slice none 0 0, .string ⟨#[107]⟩, .string ⟨#[]⟩]) (by simp [results, Try.f26, go_sem]) rfl ?_
  exact ⟨_, rfl, ⟨none, 0, rfl, IsNums.of_row (World.ownsRow_nil _ 0 3 1)⟩, box_below w _⟩

theorem takesF_sub : ∀ (k : Nat) (F : FilD), ∀ r ∈ (takesF k F).L, r ∈ F.L
  | 0, _, _, h => h
  | k + 1, F, r, h => by
    have := takesF_sub k (takeF F) r h
    exact (List.mem_filter.1 this).1
theorem readyL_mem {F : FilD} (hok : F.ok) (k : Nat) (h : k < (readyL F).length) : (readyL F)[k] ∈ F.L := by
  have := readyL_first hok k (by omega)
  rw [List.getElem?_eq_getElem h] at this
  exact takesF_sub k F _ (firstF_some this).1
theorem readyL_len {F : FilD} (hok : F.ok) : (readyL F).length ≤ 64 := by
  rcases Nat.lt_or_ge 64 (readyL F).length with h | h
  · have h1 := readyL_seq hok 64 h
    have h2 := hok.each _ (readyL_mem hok 64 h)
    have h3 := hok.room1
    omega
  · exact h

/-- What lies in the boxes of Taken, and in its row. -/
structure InT (p b o most : Nat) (l : List Pl) (W : World) (va : Value) : Prop where
  m : Boxed W o 3 (.int .i64 (most : Int))
  r1 : Boxed W (o + 1) 43 (.slice none 0 0)
  r2 : Boxed W (o + 2) 4 (.bool false)
  a : Boxed W (o + 4) 43 va
  row : W.ownsRow (o + 5) 35 5 va l.length (l.flatMap Pl.cells5)
  dep : ∀ q ∈ l, W.ownsRow 0 3 1 q.vd q.r.dep.length (q.r.dep.map (Value.int .i64)) ∧ ∀ c, q.vd.ownBlock = some c → c ≠ p ∧ c ≠ b
theorem InT.keep {p b o most : Nat} {l : List Pl} {W W' : World} {va : Value} (h : InT p b o most l W va) (hk : ∀ (k : Nat) (c : Array Value) (t : TypeId) (f : Nat × Nat), W.heap[k]? = some (.cells c t f) → k ≠ p → k ≠ b → W'.heap[k]? = W.heap[k]?) (hp : p < o) (hb : b < o) : InT p b o most l W' va :=
  ⟨boxed_of_heap h.m (hk _ _ _ _ h.m (by omega) (by omega)), boxed_of_heap h.r1 (hk _ _ _ _ h.r1 (by omega) (by omega)), boxed_of_heap h.r2 (hk _ _ _ _ h.r2 (by omega) (by omega)), boxed_of_heap h.a (hk _ _ _ _ h.a (by omega) (by omega)),
    ownsRow_of_heap h.row (fun k e => by
      have hl := (h.row.lt k e).1
      rcases h.row.2 with ⟨rfl, _⟩ | ⟨g, cap, cur, rfl, _, hg, _⟩
      · cases e
      · obtain rfl : g = k := by simpa [Value.ownBlock] using e
        exact hk _ _ _ _ hg (by omega) (by omega)),
    fun q hq => ⟨ownsRow_of_heap (h.dep q hq).1 (fun k e => by
      obtain ⟨h1, h2⟩ := (h.dep q hq).2 k e
      rcases (h.dep q hq).1.2 with ⟨e', _⟩ | ⟨g, cap, cur, e', _, hg, _⟩
      · rw [e'] at e; cases e
      · obtain rfl : g = k := by rw [e'] at e; simpa [Value.ownBlock] using e
        exact hk _ _ _ _ hg h1 h2), (h.dep q hq).2⟩⟩
/-- One more behind the others. -/
theorem InT.app {p b o most : Nat} {l : List Pl} {W w1 : World} {va v1 : Value} {x : Pl} {ob : Obj} (h : InT p b o most l W va) (hx : W.ownsRow 0 3 1 x.vd x.r.dep.length (x.r.dep.map (Value.int .i64)) ∧ ∀ c, x.vd.ownBlock = some c → c ≠ p ∧ c ≠ b)
    (hown1 : w1.ownsRow (o + 5) 35 5 v1 (l.length + 1) (l.flatMap Pl.cells5 ++ x.cells5)) (hgrow : (W.alloc ob).grownBy w1 va.ownBlock) :
    (Boxed w1 (o + 4) 43 va ∧ Boxed w1 o 3 (.int .i64 (most : Int)) ∧ Boxed w1 (o + 1) 43 (.slice none 0 0) ∧ Boxed w1 (o + 2) 4 (.bool false)) ∧ InT p b o most (l ++ [x]) (w1.setCell ⟨o + 4, 0, none⟩ v1) v1 ∧ KeepsOthers W (w1.setCell ⟨o + 4, 0, none⟩ v1) ∧ (∀ k, k < W.heap.size → k ≠ o + 4 → va.ownBlock ≠ some k → (w1.setCell ⟨o + 4, 0, none⟩ v1).heap[k]? = W.heap[k]?) ∧
      (∀ b w, b ≤ o + 4 → Below b w W → Below b w (w1.setCell ⟨o + 4, 0, none⟩ v1)) := by
  have hlt := h.a.lt
  obtain ⟨x1, x2, x3, x4, x5, x6⟩ := box_app h.a h.row (by omega) (by omega) hown1 hgrow
  have bk : ∀ k, k < o + 5 → k ≠ o + 4 → (w1.setCell ⟨o + 4, 0, none⟩ v1).heap[k]? = W.heap[k]? := fun k hk hne => x5 k (by omega) hne (fun e => by have := (h.row.lt k e).1; omega)
  have dp : ∀ q : Pl, (W.ownsRow 0 3 1 q.vd q.r.dep.length (q.r.dep.map (Value.int .i64)) ∧ ∀ c, q.vd.ownBlock = some c → c ≠ p ∧ c ≠ b) → ((w1.setCell ⟨o + 4, 0, none⟩ v1).ownsRow 0 3 1 q.vd q.r.dep.length (q.r.dep.map (Value.int .i64)) ∧ ∀ c, q.vd.ownBlock = some c → c ≠ p ∧ c ≠ b) := fun q hq =>
    ⟨ownsRow_of_heap hq.1 (fun k e => x5 k (hq.1.lt k e).2 (by
      rintro rfl
      have ha := h.a
      rcases hq.1.2 with ⟨e', _⟩ | ⟨g, cap, cur, e', _, hg, _⟩
      · rw [e'] at e; cases e
      · obtain rfl : g = o + 4 := by rw [e'] at e; simpa [Value.ownBlock] using e
        unfold Boxed at ha
        rw [ha] at hg
        simp only [Option.some.injEq, Obj.cells.injEq] at hg
        exact absurd hg.2.1 (by decide)) (fun e' => rows_apart (by decide) hq.1 h.row k e e')), hq.2⟩
  have nb : ∀ B, B < o + 5 → some B ≠ va.ownBlock := fun B hB e' => by have := (h.row.lt B e'.symm).1; omega
  refine ⟨⟨x1, (h.m.alloc ob).kept hgrow (nb _ (by omega)), (h.r1.alloc ob).kept hgrow (nb _ (by omega)), (h.r2.alloc ob).kept hgrow (nb _ (by omega))⟩, ⟨boxed_of_heap h.m (bk _ (by omega) (by omega)), boxed_of_heap h.r1 (bk _ (by omega) (by omega)), boxed_of_heap h.r2 (bk _ (by omega) (by omega)), x2, ?_, ?_⟩, x4, x5, x6⟩
  · rw [List.length_append, List.flatMap_append]
    simpa using x3
  · intro q hq
    rcases List.mem_append.1 hq with hq | hq
    · exact dp q (h.dep q hq)
    · rw [List.mem_singleton.1 hq]
      exact dp x hx

theorem dep_set {W : World} {B : Nat} {t : TypeId} {v : Value} (hb : Boxed W B t v) (ht : t ≠ 3) {vd : Value} {n : Nat} {xs : List Value} (h : W.ownsRow 0 3 1 vd n xs) (v' : Value) : (W.setCell ⟨B, 0, none⟩ v').ownsRow 0 3 1 vd n xs :=
  ownsRow_of_heap h fun k e => Below.heap_setCell _ _ _ _ (by
    intro hkB
    have e3 : k = B := hkB
    rcases h.2 with ⟨e', _⟩ | ⟨g, cap, cur, e', _, hg, _⟩
    · rw [e'] at e; cases e
    · obtain rfl : g = k := by rw [e'] at e; simpa [Value.ownBlock] using e
      unfold Boxed at hb
      rw [← e3, hg] at hb
      simp only [Option.some.injEq, Obj.cells.injEq] at hb
      exact ht hb.2.1.symm)
/-- The results stored. -/
theorem InT.end {p b o most : Nat} {l : List Pl} {W : World} {va : Value} (h : InT p b o most l W va) :
    Boxed ((W.setCell ⟨o + 1, 0, none⟩ va).setCell ⟨o + 2, 0, none⟩ (.bool true)) (o + 1) 43 va ∧ Boxed ((W.setCell ⟨o + 1, 0, none⟩ va).setCell ⟨o + 2, 0, none⟩ (.bool true)) (o + 2) 4 (.bool true) ∧
    ((W.setCell ⟨o + 1, 0, none⟩ va).setCell ⟨o + 2, 0, none⟩ (.bool true)).ownsRow (o + 5) 35 5 va l.length (l.flatMap Pl.cells5) ∧
    (∀ q ∈ l, ((W.setCell ⟨o + 1, 0, none⟩ va).setCell ⟨o + 2, 0, none⟩ (.bool true)).ownsRow 0 3 1 q.vd q.r.dep.length (q.r.dep.map (Value.int .i64))) ∧
    KeepsOthers W ((W.setCell ⟨o + 1, 0, none⟩ va).setCell ⟨o + 2, 0, none⟩ (.bool true)) ∧ (∀ c, c ≠ o + 1 → c ≠ o + 2 → ((W.setCell ⟨o + 1, 0, none⟩ va).setCell ⟨o + 2, 0, none⟩ (.bool true)).heap[c]? = W.heap[c]?) := by
  have r2 : Boxed (W.setCell ⟨o + 1, 0, none⟩ va) (o + 2) 4 (.bool false) := boxed_of_heap h.r2 (Below.heap_setCell _ _ _ _ (by simp))
  have oth : ∀ c, c ≠ o + 1 → c ≠ o + 2 → ((W.setCell ⟨o + 1, 0, none⟩ va).setCell ⟨o + 2, 0, none⟩ (.bool true)).heap[c]? = W.heap[c]? := fun c h1 h2 => (Below.heap_setCell _ _ _ _ h2).trans (Below.heap_setCell _ _ _ _ h1)
  exact ⟨boxed_of_heap (h.r1.set va) (Below.heap_setCell _ _ _ _ (by simp)), r2.set _, ownsRow_of_heap h.row fun k e => oth k (by have := (h.row.lt k e).1; omega) (by have := (h.row.lt k e).1; omega),
    fun q hq => dep_set r2 (by decide) (dep_set h.r1 (by decide) (h.dep q hq).1 _) _, (KeepsOthers.setCell _ _ _).trans (KeepsOthers.setCell _ _ _), oth⟩
/-- What the filter's sequence needs of a round: the first part. -/
theorem InT.kp {p b o most : Nat} {l : List Pl} {W W' : World} {va : Value} (h : InT p b o most l W va) (hp : p < o) (hb : b < o) (h1 : ∀ k, k < W.heap.size → k ≠ o + 4 → va.ownBlock ≠ some k → W'.heap[k]? = W.heap[k]?) : KpF p b (o + 3) W W' := by
  have hl := h.a.lt
  have nb : ∀ B, B < o + 5 → va.ownBlock ≠ some B := fun B hB e' => by have := (h.row.lt B e').1; omega
  refine ⟨fun c hc => ?_, fun k c e => h1 k (ltAt e) ?_ ?_⟩
  · rcases hc with rfl | rfl | rfl <;> exact h1 _ (by omega) (by omega) (nb _ (by omega))
  · rintro rfl
    have ha := h.a
    unfold Boxed at ha
    rw [ha] at e
    simp only [Option.some.injEq, Obj.cells.injEq] at e
    exact absurd e.2.1 (by decide)
  · intro e'
    rcases h.row.2 with ⟨rfl, _⟩ | ⟨g, cap, cur, rfl, _, hg, _⟩
    · cases e'
    · obtain rfl : g = k := by simpa [Value.ownBlock] using e'
      rw [hg] at e
      simp only [Option.some.injEq, Obj.cells.injEq] at e
      exact absurd e.2.1 (by decide)

/-- The four boxes that are there ahead of the range, and what was there. -/
structure InT0 (p most' : Int) (P0 : Nat) (w W : World) : Prop where
  m : Boxed W w.heap.size 3 (.int .i64 most')
  r1 : Boxed W (w.heap.size + 1) 43 (.slice none 0 0)
  r2 : Boxed W (w.heap.size + 2) 4 (.bool false)
  x : Boxed W (w.heap.size + 3) 25 (.pointer (some ⟨P0, 0, none⟩))
  sz : W.heap.size = w.heap.size + 4
  b : Below w.heap.size w W
theorem inT0_made (most' : Int) (P0 : Nat) (w : World) : InT0 0 most' P0 w ((((w.alloc (.cells #[.int .i64 most'] 3)).alloc (.cells #[.slice none 0 0] 43)).alloc (.cells #[.bool false] 4)).alloc (.cells #[.pointer (some ⟨P0, 0, none⟩)] 25)) :=
  ⟨(((Boxed.new w _ _).alloc _).alloc _).alloc _, ((boxed_new' (by simp)).alloc _).alloc _, (boxed_new' (by simp)).alloc _, boxed_new' (by simp), by simp, ((((Below.refl _ w).alloc (Nat.le_refl _) _).alloc (by simp) _).alloc (by simp; omega) _).alloc (by simp; omega) _⟩

set_option maxRecDepth 100000 in
set_option maxHeartbeats 4000000 in
theorem taken_none (p b : Nat) (F : FilD) (most : Int) (hm : most ≤ 0) (w : World) (hf : IsFil w p b F) :
    Calls Try.prog 15 #[.pointer (some ⟨p, 0, none⟩), .int .i64 most] w fun e w' => e = .returned (.tuple #[.slice none 0 0, .bool true]) ∧ Below w.heap.size w w' := by
  have heq : ∀ (fn : Fn) (first cap : Array Value) (w : World), (binOp .eql 74 (.func fn first cap) .nilFunc).run Try.prog w = .ok (.bool false) w := fun _ _ _ _ => by kernel_rfl
  refine (callsIn_wide (n := 9)).1 ?_
  refine callsIn_of_wp_marks Try.func15 rfl trivial ?_ rfl
  simp only [Try.ntmps15, List.size_toArray, List.length_cons, List.length_nil, Nat.reduceAdd, Nat.reduceSub, Array.replicate_succ, Array.replicate_zero, List.push_toArray, List.append_toArray, List.nil_append, List.cons_append]
  have h0 := inT0_made most p w
  gi_wp2_with (refine ⟨trivial, ?_⟩; gi_at_call 31; refine ((callsIn_wide (n := _)).2 (ready_calls _ _)).mono ?_; rintro en w' ⟨rfl, rfl⟩; obtain ⟨W4, hW4⟩ : ∃ W4, ((((w.alloc (.cells #[.int .i64 most] 3)).alloc (.cells #[.slice none 0 0] 43)).alloc (.cells #[.bool false] 4)).alloc (.cells #[.pointer (some ⟨p, 0, none⟩)] 25)) = W4 := ⟨_, rfl⟩; rw [hW4] at h0; rw [hW4]; clear hW4; have cm := (h0.m.alloc (.cells #[.slice none 0 0] 43)).cell; have c1 := (h0.r1.alloc (.cells #[.slice none 0 0] 43)).cell; have g1 := (h0.r1.alloc (.cells #[.slice none 0 0] 43)).frozen; have c2 := (h0.r2.alloc (.cells #[.slice none 0 0] 43)).cell; have g2 := (h0.r2.alloc (.cells #[.slice none 0 0] 43)).frozen; (try simp only [World.size_alloc, Nat.add_assoc, Nat.reduceAdd]))
  have r1 := (h0.r1.alloc (.cells #[.slice none 0 0] 43)).set (.slice none 0 0)
  have r2 := boxed_of_heap (h0.r2.alloc (.cells #[.slice none 0 0] 43)) (Below.heap_setCell _ ⟨w.heap.size + 1, 0, none⟩ (.slice none 0 0) (w.heap.size + 2) (by simp))
  have k1 := (boxed_of_heap r1 (Below.heap_setCell _ ⟨w.heap.size + 2, 0, none⟩ (.bool true) (w.heap.size + 1) (by simp))).cell
  have k2 := (r2.set (.bool true)).cell
  refine ⟨.tuple #[.slice none 0 0, .bool true], by simp [results, Try.f15, go_sem, k1, k2], rfl, ?_⟩
  exact (((h0.b.alloc (by rw [h0.sz]; omega) _).setCell (p := ⟨w.heap.size + 1, 0, none⟩) (by simp) _).setCell (p := ⟨w.heap.size + 2, 0, none⟩) (by simp) _)

/-- A row of records of one's own, each one's numbers in a row of their own. -/
def HasL (w : World) (v : Value) (L : List RecD) : Prop :=
  ∃ l : List Pl, l.map (·.r) = L ∧ w.ownsRow 0 35 5 v l.length (l.flatMap Pl.cells5) ∧ ∀ q ∈ l, w.ownsRow 0 3 1 q.vd q.r.dep.length (q.r.dep.map (Value.int .i64))

set_option maxRecDepth 100000 in
set_option maxHeartbeats 4000000 in
theorem taken_some (p b : Nat) (F : FilD) (most : Nat) (hm : 1 ≤ most) (hm2 : most ≤ 9223372036854775807) (w : World) (hf : IsFil w p b F) :
    Calls Try.prog 15 #[.pointer (some ⟨p, 0, none⟩), .int .i64 (most : Int)] w fun e w' => ∃ v, e = .returned (.tuple #[v, .bool true]) ∧ HasL w' v ((readyL F).take most) ∧ IsFil w' p b (takesF (min most (readyL F).length) F) ∧ Touch (onFil p b) w w' := by
  have heq : ∀ (fn : Fn) (first cap : Array Value) (w : World), (binOp .eql 74 (.func fn first cap) .nilFunc).run Try.prog w = .ok (.bool false) w := fun _ _ _ _ => by kernel_rfl
  obtain ⟨j0, ji, jz0, jz1, jz2⟩ := info_parts Try.info35
  have hok := hf.ok
  have hlen := readyL_len hok
  have hpl := hf.lt
  have hbl := hf.ltb
  have hf' := hide hf
  clear hf
  refine (callsIn_wide (n := 9)).1 ?_
  refine callsIn_of_wp_marks Try.func15 rfl trivial ?_ rfl
  simp only [Try.ntmps15, List.size_toArray, List.length_cons, List.length_nil, Nat.reduceAdd, Nat.reduceSub, Array.replicate_succ, Array.replicate_zero, List.push_toArray, List.append_toArray, List.nil_append, List.cons_append]
  have h0 := inT0_made (most : Int) p w
  have hm0 : ¬ (most : Int) ≤ 0 := by omega
  gi_wp2_with (refine ⟨trivial, ?_⟩; gi_at_call 31; refine ((callsIn_wide (n := _)).2 (ready_calls _ _)).mono ?_; rintro en w' ⟨rfl, rfl⟩; obtain ⟨W4, hW4⟩ : ∃ W4, ((((w.alloc (.cells #[.int .i64 (most : Int)] 3)).alloc (.cells #[.slice none 0 0] 43)).alloc (.cells #[.bool false] 4)).alloc (.cells #[.pointer (some ⟨p, 0, none⟩)] 25)) = W4 := ⟨_, rfl⟩; rw [hW4] at h0; rw [hW4]; clear hW4; have cm := (h0.m.alloc (.cells #[.slice none 0 0] 43)).cell; (try simp only [World.size_alloc, Nat.add_assoc, Nat.reduceAdd]))
  have sz4 := h0.sz
  have y0 := h0.m.alloc (.cells #[.slice none 0 0] 43)
  have y1 := h0.r1.alloc (.cells #[.slice none 0 0] 43)
  have y2 := h0.r2.alloc (.cells #[.slice none 0 0] 43)
  have y3 := h0.x.alloc (.cells #[.slice none 0 0] 43)
  have y4 := Boxed.new W4 43 (.slice none 0 0)
  rw [sz4] at y4
  have hB5 := h0.b.alloc (by omega) (.cells #[.slice none 0 0] 43)
  rw [sz4]
  obtain ⟨W5, hW5⟩ : ∃ W5, W4.alloc (.cells #[.slice none 0 0] 43) = W5 := ⟨_, rfl⟩
  have sz5 : W5.heap.size = w.heap.size + 5 := by rw [← hW5]; simp [sz4]
  rw [hW5] at y0 y1 y2 y3 y4 hB5
  rw [hW5]
  clear hW5 h0 cm sz4
  have hst : StF p b (w.heap.size + 3) F 0 W5 := ⟨hf'.out.keep hB5, y3⟩
  refine range_lawQ (by decide) (gf := 43) (lb := #[.pointer (some ⟨w.heap.size + 3, 0, none⟩)]) rfl (enters_of Try.func43 (by kernel_rfl) rfl)
    (ready_seq (w.heap.size + 3) p b F W5 hst) (by rintro c (rfl | rfl) <;> omega) kpF_t (kpF_b (by omega) (by omega) (by omega)) (StF.own (by omega)) (fun v => GvF.own v)
    (fun k T W => ∃ (va : Value) (l : List Pl), T = (fun c => c = w.heap.size + 4 ∨ va.ownBlock = some c) ∧ l.map (·.r) = (readyL F).take k ∧ k < most ∧ k ≤ (readyL F).length ∧ InT p b w.heap.size most l W va ∧ Touch (onFil p b) w W ∧ w.heap.size + 5 ≤ W.heap.size)
    (fun c k W => c = .ret ∧ k = most ∧ k ≤ (readyL F).length ∧ ∃ (va : Value) (l : List Pl), l.map (·.r) = (readyL F).take k ∧ Boxed W (w.heap.size + 1) 43 va ∧ Boxed W (w.heap.size + 2) 4 (.bool true) ∧ W.ownsRow (w.heap.size + 5) 35 5 va l.length (l.flatMap Pl.cells5) ∧ (∀ q ∈ l, W.ownsRow 0 3 1 q.vd q.r.dep.length (q.r.dep.map (Value.int .i64))) ∧ Touch (onFil p b) w W ∧ w.heap.size + 5 ≤ W.heap.size)
    ?hI ?hIT ?hIX ?hIx ?h0
    (fun v a' Z => ∃ (Bx : Nat) (z1 z2 : Int) (z3 : Option Addr) (z4 z5 : Nat) (z6 z7 : ByteArray), v = .agg #[.int .i64 z1, .int .i64 z2, .slice z3 z4 z5, .string z6, .string z7] ∧ Z.heap[Bx]? = some (.cells #[.int .i64 z1, .int .i64 z2, .slice z3 z4 z5, .string z6, .string z7] 35 (0, 0)) ∧ a' = { tmps := #[.pointer (some ⟨p, 0, none⟩), .int .i64 (most : Int), undef, .pointer (some ⟨w.heap.size, 0, none⟩), .pointer (some ⟨w.heap.size + 1, 0, none⟩), .pointer (some ⟨w.heap.size + 2, 0, none⟩), .func (.func 43) #[] #[.pointer (some ⟨w.heap.size + 3, 0, none⟩)], .pointer (some ⟨w.heap.size + 4, 0, none⟩), .pointer (some ⟨Bx, 0, none⟩), .pointer (some ⟨p, 0, none⟩), .func (.func 43) #[] #[.pointer (some ⟨w.heap.size + 3, 0, none⟩)], .func (.func 43) #[] #[.pointer (some ⟨w.heap.size + 3, 0, none⟩)], .bool false, .int .i64 (most : Int), .bool false, .func (.func 43) #[] #[.pointer (some ⟨w.heap.size + 3, 0, none⟩)], v, undef, undef, undef, undef, undef, undef, undef, undef, undef, undef], defers := [] })
    ?hAx ?assign (fun A B hb h => kpF_n hb (by omega) (by omega) (by omega)) (fun k v A B h hb => h.keep fun i c e => hb.block i (ltAt e)) (fun k A B h hb => h.below hb) ?hIz ?body ?done ?stop
  case hI =>
    rintro T k A B row ⟨va, l, h1, h2, h3, h4, h5, h6, h7⟩ hg hr
    exact ⟨va, l, h1, h2, h3, h4, h5.keep (fun k c t f e _ _ => own_keeps hg (fun r e => (hr r e).2) e) (by omega) (by omega), ownFrom_touch (β := Unit) (show w.heap.size ≤ W5.heap.size by omega) () A B row h6 hg hr, Nat.le_trans h7 hg.size⟩
  case hIT =>
    rintro k T W ⟨va, l, rfl, h2, h3, h4, h5, h6, h7⟩ c (rfl | hc)
    · omega
    · exact (h5.row.lt c hc).2
  case hIX =>
    rintro k T A B ⟨va, l, h1, h2, h3, h4, h5, h6, h7⟩ ht
    exact ⟨va, l, h1, h2, h3, h4, h5.keep (fun k c t f e n1 n2 => ht.block k (ltAt e) (by rintro (e | e); exact n1 e; exact n2 e)) (by omega) (by omega), h6.trans ht, Nat.le_trans h7 ht.size⟩
  case hIx =>
    rintro c k A B row ⟨h1, h2, h3, va, l, h4, h5, h6, h7, h8, h9, h10⟩ hg hr
    exact ⟨h1, h2, h3, va, l, h4, boxed_own' hg (fun r e => (hr r e).2) h5, boxed_own' hg (fun r e => (hr r e).2) h6, ownsRow_own' hg (fun r e => (hr r e).2) h7, fun q hq => ownsRow_own' hg (fun r e => (hr r e).2) (h8 q hq), ownFrom_touch (β := Unit) (show w.heap.size ≤ W5.heap.size by omega) () A B row h9 hg hr, Nat.le_trans h10 hg.size⟩
  case h0 =>
    exact ⟨_, .slice none 0 0, [], rfl, rfl, by omega, Nat.zero_le _, ⟨y0, y1, y2, y4, World.ownsRow_nil _ _ _ _, fun q hq => (by cases hq)⟩, touch_new hB5, by omega⟩
  case hAx =>
    rintro v a' _ A B row ⟨Bx, z1, z2, z3, z4, z5, z6, z7, h1, h2, h3⟩ hg hr
    exact ⟨Bx, z1, z2, z3, z4, z5, z6, z7, h1, (own_keeps hg (fun r e => (hr r e).2) h2).trans h2, h3⟩
  case hIz =>
    rintro k T W ⟨va, l, h1, h2, h3, h4, h5, h6, h7⟩
    omega
  case assign =>
    rintro l0 k T v X K - ⟨r, -, vd, rfl, hr⟩ hK
    obtain ⟨a, cap, rfl⟩ := ownsRow_slice hr
    replace hK := hide hK
    clear hr
    gi_wp2
    exact hK.out _ _ (box_below X _) ⟨X.heap.size, r.site, r.seq, a, r.dep.length, cap, r.key, r.val, rfl, World.alloc_heap_new X _, rfl⟩
  case body =>
    rintro l0 k T v a' X hl1 ⟨rl, hrl⟩ ⟨va, l, rfl, hlm, hkm, hkl, hin, ht, hXs⟩ hst ⟨r, hrk, hrv⟩ ⟨Bx, z1, z2, z3, z4, z5, z6, z7, rfl, hbx, rfl⟩
    obtain ⟨vd, e, hvr⟩ := hrv
    have e2 : z1 = r.site ∧ z2 = r.seq ∧ .slice z3 z4 z5 = vd ∧ z6 = r.key ∧ z7 = r.val := by
      have e2 := e
      simp at e2
      exact e2
    obtain ⟨rfl, rfl, rfl, rfl, rfl⟩ := e2
    clear e
    have hkl' : k < (readyL F).length := (List.getElem?_eq_some_iff.1 hrk).1
    have hll : l.length = k := by
      have := congrArg List.length hlm
      simp at this
      omega
    have hx : X.ownsRow 0 3 1 (.slice z3 z4 z5) r.dep.length (r.dep.map (Value.int .i64)) ∧ ∀ c, (Value.slice z3 z4 z5).ownBlock = some c → c ≠ p ∧ c ≠ b := by
      refine ⟨hvr, fun c hc => ?_⟩
      rcases hvr.2 with ⟨e', _⟩ | ⟨g, cap, cur, e', _, hg, _⟩
      · rw [e'] at hc; cases hc
      · obtain rfl : g = c := by rw [e'] at hc; simpa [Value.ownBlock] using hc
        constructor
        · rintro rfl
          rw [hst.1.head] at hg
          simp only [Option.some.injEq, Obj.cells.injEq] at hg
          exact absurd hg.2.1 (by decide)
        · rintro rfl
          obtain ⟨M, -, m2, -⟩ := hst.1.held
          exact m2.not_cells hg
    have hma : (l ++ [(⟨0, r, .slice z3 z4 z5⟩ : Pl)]).map (·.r) = (readyL F).take (k + 1) := by
      rw [List.map_append, hlm, List.take_succ_eq_append_getElem hkl']
      simp [(List.getElem?_eq_some_iff.1 hrk).2]
    obtain ⟨x0, x1, x2, x3, x4, -, -, -, -, -⟩ := cells5F hbx
    obtain ⟨pa, ca, rfl⟩ := ownsRow_slice hin.row
    have ca0 := hin.a.cell
    have Hx := hide hx
    have Hin := hide hin
    have Hst := hide hst
    have Hma := hide hma
    have Ht := hide ht
    rw [hll] at ca0
    clear hx hin hma hlm ht hst hvr hbx hrk
    have hop := hide hll
    by_cases hge : (most : Int) ≤ (k : Int) + 1
    · gi_wp2_with (gi_at_builtin; refine wpListIn_append_own_at _ rfl (.tmp 17) _ 43 rfl (w.heap.size + 5) 35 j0 _ 5 72 Try.underlying43 ji jz0 jz1 jz2 rfl (by decide) _ _ _ (by rw [← hop.out]; rfl) (World.ownsRow.alloc Hin.out.row _) ⟨_, 0, none⟩ 1 1 [.int .i64 r.site, .int .i64 r.seq, .slice z3 z4 z5, .string r.key, .string r.val] rfl rfl (cells_new (by simp)) (by intro u hu; simp at hu; rcases hu with rfl | rfl | rfl | rfl | rfl <;> rfl) (by unfold maxLen; omega) (by omega) (by simp; omega) ?_; intro v1 w1 hown1 hgrow1 _ hat1; obtain ⟨g1, cap1, rfl⟩ := ownsRow_succ hown1; obtain ⟨⟨bx1, bm1, br1, br2⟩, hin1, k1, o1, l1⟩ := Hin.out.app (x := ⟨0, r, .slice z3 z4 z5⟩) Hx.out hown1 hgrow1; have d1 := bx1.cell; have f1 := bx1.frozen; have d2 := bm1.cell; have d3 := br1.cell; have f3 := br1.frozen; have d4 := br2.cell; have f4 := br2.frozen; have Hin1 := hide hin1; have Hk1 := hide k1; have Ho1 := hide o1; have Hl1 := hide l1; have Hat1 := hide hat1; rw [hop.out]; clear hgrow1 hat1 hown1 hin1 l1 o1 k1)
      have hop2 := hop.out
      subst hop2
      obtain ⟨n1, n2, n3, n4, n5, n6⟩ := Hin1.out.end
      have hw2 : KpF p b (w.heap.size + 3) X ((w1.setCell ⟨w.heap.size + 4, 0, none⟩ (.slice (some ⟨g1, 0, none⟩) (l.length + 1) cap1)).setCell ⟨w.heap.size + 1, 0, none⟩ (.slice (some ⟨g1, 0, none⟩) (l.length + 1) cap1) |>.setCell ⟨w.heap.size + 2, 0, none⟩ (.bool true)) := by
        refine kpF_t (Hin.out.kp hpl hbl Ho1.out) ⟨fun c hc => n6 c (by rcases hc with rfl | rfl | rfl <;> omega) (by rcases hc with rfl | rfl | rfl <;> omega), fun c cs e => n6 c ?_ ?_⟩
        · rintro rfl
          have := Hin1.out.r1
          unfold Boxed at this
          rw [this] at e
          simp only [Option.some.injEq, Obj.cells.injEq] at e
          exact absurd e.2.1 (by decide)
        · rintro rfl
          have := Hin1.out.r2
          unfold Boxed at this
          rw [this] at e
          simp only [Option.some.injEq, Obj.cells.injEq] at e
          exact absurd e.2.1 (by decide)
      have hlow := ((Hl1.out w.heap.size X (by omega) (Below.refl _ X)).setCell (p := ⟨w.heap.size + 1, 0, none⟩) (by simp) (.slice (some ⟨g1, 0, none⟩) (l.length + 1) cap1)).setCell (p := ⟨w.heap.size + 2, 0, none⟩) (by simp) (.bool true)
      exact ⟨(Hk1.out.trans n5).from _, hw2, rfl, by omega, by omega, _, _, Hma.out, n1, n2, n3, n4, Ht.out.upper (touch_of_below (S := fun c => w.heap.size ≤ c) hlow fun _ _ h => h) fun _ h => h, by have := hlow.size; omega⟩
    · gi_wp2_with (gi_at_builtin; refine wpListIn_append_own_at _ rfl (.tmp 17) _ 43 rfl (w.heap.size + 5) 35 j0 _ 5 72 Try.underlying43 ji jz0 jz1 jz2 rfl (by decide) _ _ _ (by rw [← hop.out]; rfl) (World.ownsRow.alloc Hin.out.row _) ⟨_, 0, none⟩ 1 1 [.int .i64 r.site, .int .i64 r.seq, .slice z3 z4 z5, .string r.key, .string r.val] rfl rfl (cells_new (by simp)) (by intro u hu; simp at hu; rcases hu with rfl | rfl | rfl | rfl | rfl <;> rfl) (by unfold maxLen; omega) (by omega) (by simp; omega) ?_; intro v1 w1 hown1 hgrow1 _ hat1; obtain ⟨g1, cap1, rfl⟩ := ownsRow_succ hown1; obtain ⟨⟨bx1, bm1, br1, br2⟩, hin1, k1, o1, l1⟩ := Hin.out.app (x := ⟨0, r, .slice z3 z4 z5⟩) Hx.out hown1 hgrow1; have d1 := bx1.cell; have f1 := bx1.frozen; have d2 := bm1.cell; have d3 := br1.cell; have f3 := br1.frozen; have d4 := br2.cell; have f4 := br2.frozen; have Hin1 := hide hin1; have Hk1 := hide k1; have Ho1 := hide o1; have Hl1 := hide l1; have Hat1 := hide hat1; rw [hop.out]; clear hgrow1 hat1 hown1 hin1 l1 o1 k1)
      have hop2 := hop.out
      subst hop2
      have hlow := Hl1.out w.heap.size X (by omega) (Below.refl _ X)
      rw [← sz5]
      refine ⟨⟨_, ⟨_, rfl, _, Hma.out, by omega, by omega, Hin1.out, Ht.out.upper (touch_of_below (S := fun c => w.heap.size ≤ c) hlow fun _ _ h => h) fun _ h => h, by have := hlow.size; omega⟩, ⟨Hk1.out.from _, fun c h1 h2 h3 => Ho1.out c h2 (fun e => h3 (.inl e)) (fun e => h3 (.inr e)), fun c h1 h2 => ?_⟩⟩, Hin.out.kp hpl hbl Ho1.out⟩
      rcases h2 with h2 | h2
      · exact .inl h2
      · rcases Hat1.out with h3 | h3
        · exact .inr (h3.symm.trans h2)
        · rw [h3] at h2
          simp at h2
          omega
  case done =>
    rintro D k T X hD rfl ⟨va, l, rfl, hlm, hkm, hkl, hin, ht, hXs⟩ hst2 hK
    obtain ⟨pa, ca, rfl⟩ := ownsRow_slice hin.row
    have c4 := hin.a.cell
    have c1 := hin.r1.cell
    have f1 := hin.r1.frozen
    have c2 := hin.r2.cell
    have f2 := hin.r2.frozen
    have Hin := hide hin
    have Ht := hide ht
    have Hlm := hide hlm
    have Hst := hide hst2
    have HK := hide hK
    clear hin ht hlm hst2 hK
    gi_wp2
    obtain ⟨n1, n2, n3, n4, n5, n6⟩ := Hin.out.end
    have hl4 := Hin.out.a.lt
    have hK2 := n5.same D _ HK.out rfl
    have hst2 : StF p b (w.heap.size + 3) F (readyL F).length ((X.setCell ⟨w.heap.size + 1, 0, none⟩ (.slice pa l.length ca)).setCell ⟨w.heap.size + 2, 0, none⟩ (.bool true)) := by
      refine Hst.out.kp ⟨fun c hc => n6 c (by rcases hc with rfl | rfl | rfl <;> omega) (by rcases hc with rfl | rfl | rfl <;> omega), fun c cs e => n6 c ?_ ?_⟩
      · rintro rfl
        have := Hin.out.r1
        unfold Boxed at this
        rw [this] at e
        simp only [Option.some.injEq, Obj.cells.injEq] at e
        exact absurd e.2.1 (by decide)
      · rintro rfl
        have := Hin.out.r2
        unfold Boxed at this
        rw [this] at e
        simp only [Option.some.injEq, Obj.cells.injEq] at e
        exact absurd e.2.1 (by decide)
    have ht2 : Touch (onFil p b) w ((X.setCell ⟨w.heap.size + 1, 0, none⟩ (.slice pa l.length ca)).setCell ⟨w.heap.size + 2, 0, none⟩ (.bool true)) :=
      Ht.out.upper (touch_of_below (S := fun c => w.heap.size ≤ c) (((Below.refl w.heap.size X).setCell (p := ⟨w.heap.size + 1, 0, none⟩) (by simp) _).setCell (p := ⟨w.heap.size + 2, 0, none⟩) (by simp) _) fun _ _ h => h) fun _ h => h
    have hrecs := Hlm.out
    obtain ⟨W2, hW2⟩ : ∃ W2, (X.setCell ⟨w.heap.size + 1, 0, none⟩ (.slice pa l.length ca)).setCell ⟨w.heap.size + 2, 0, none⟩ (.bool true) = W2 := ⟨_, rfl⟩
    rw [hW2] at n1 n2 n3 n4 hK2 hst2 ht2
    rw [hW2]
    clear hW2 n5 n6
    have hg := grownBy_putObj' W2 D (.deferred none)
    have hr : ∀ r, some D = some r → ∃ o : Obj, W2.heap[r]? = some o ∧ o.isCells = false := fun r e => by cases e; exact ⟨_, hK2, rfl⟩
    have Q1 := (boxed_own' hg hr n1).cell
    have Q2 := (boxed_own' hg hr n2).cell
    refine ⟨by simp, .inl ⟨_, _, rfl, run_takeDeferred hK2, ?_⟩⟩
    refine ⟨.tuple #[.slice pa l.length ca, .bool true], by simp [results, Try.f15, go_sem, Q1, Q2], _, rfl, ?_, ?_, (ownFrom_touch (β := Unit) (show w.heap.size ≤ W5.heap.size by omega)).putObj (s := ()) _ ht2 (by omega) hK2 rfl⟩
    · refine ⟨l, ?_, ownsRow_low (ownsRow_own' hg hr n3) (Nat.zero_le _), fun q hq => ownsRow_own' hg hr (n4 q hq)⟩
      rw [hrecs, List.take_length, List.take_of_length_le (by omega)]
    · rw [show min most (readyL F).length = (readyL F).length by omega]
      exact ((StF.own (show b < W5.heap.size by omega)).putObj (s := (readyL F).length) _ hst2 (by omega) hK2 rfl).1
  case stop =>
    rintro D c k X hD ⟨rfl, hkm, hkl, va, l, hlm, h1, h2, h3, h4, h5, h6⟩ hst2 hK
    obtain ⟨pa, ca, rfl⟩ := ownsRow_slice h3
    have hg := grownBy_putObj' X D (.deferred none)
    have hr : ∀ r, some D = some r → ∃ o : Obj, X.heap[r]? = some o ∧ o.isCells = false := fun r e => by cases e; exact ⟨_, hK, rfl⟩
    have Q1 := (boxed_own' hg hr h1).cell
    have Q2 := (boxed_own' hg hr h2).cell
    subst hkm
    gi_wp2
    refine ⟨by simp, .inl ⟨_, _, rfl, run_takeDeferred hK, ?_⟩⟩
    refine ⟨.tuple #[.slice pa l.length ca, .bool true], by simp [results, Try.f15, go_sem, Q1, Q2], _, rfl, ?_, ?_, (ownFrom_touch (β := Unit) (show w.heap.size ≤ W5.heap.size by omega)).putObj (s := ()) _ h5 (by omega) hK rfl⟩
    · exact ⟨l, hlm, ownsRow_low (ownsRow_own' hg hr h3) (Nat.zero_le _), fun q hq => ownsRow_own' hg hr (h4 q hq)⟩
    · rw [show min k (readyL F).length = k by omega]
      exact ((StF.own (show b < W5.heap.size by omega)).putObj (s := k) _ hst2 (by omega) hK rfl).1

end Go.Proofs.Ytompaldhnbcikaa

/- Filters in the laws: contracts one behind the other. Own work; no statement. -/
set_option linter.unusedSimpArgs false
set_option linter.unusedVariables false
namespace Go.Proofs.Ytompaldhnbcikaa
open Go.RowKit Go.Shelf

theorem HasL.keep {w w' : World} {v : Value} {L : List RecD} (h : HasL w v L) (hk : ∀ (k : Nat) (c : Array Value) (t : TypeId), w.heap[k]? = some (.cells c t (0, 0)) → (t = 35 ∨ t = 3) → w'.heap[k]? = w.heap[k]?) : HasL w' v L := by
  obtain ⟨l, h1, h2, h3⟩ := h
  refine ⟨l, h1, ownsRow_of_heap h2 fun k e => ?_, fun q hq => ownsRow_of_heap (h3 q hq) fun k e => ?_⟩
  · rcases h2.2 with ⟨rfl, _⟩ | ⟨g, cap, cur, rfl, _, hg, _⟩
    · cases e
    · obtain rfl : g = k := by simpa [Value.ownBlock] using e
      exact hk _ _ _ hg (.inl rfl)
  · rcases (h3 q hq).2 with ⟨e', _⟩ | ⟨g, cap, cur, e', _, hg, _⟩
    · rw [e'] at e; cases e
    · obtain rfl : g = k := by rw [e'] at e; simpa [Value.ownBlock] using e
      exact hk _ _ _ hg (.inr rfl)
theorem HasL.below {w w' : World} {v : Value} {L : List RecD} (h : HasL w v L) (hb : Below w.heap.size w w') : HasL w' v L := h.keep fun k _ _ e _ => hb.block k (ltAt e)
theorem HasL.touch {w w' : World} {v : Value} {L : List RecD} {p b : Nat} {F : FilD} (h : HasL w v L) (hf : IsFil w p b F) (t : Touch (onFil p b) w w') : HasL w' v L :=
  h.keep fun k c ty e hty => t.block k (ltAt e) (by
    rintro (rfl | rfl)
    · rw [hf.head] at e
      simp only [Option.some.injEq, Obj.cells.injEq] at e
      rcases hty with h | h
      · exact absurd (e.2.1.trans h) (by decide)
      · exact absurd (e.2.1.trans h) (by decide)
    · obtain ⟨M, -, m2, -⟩ := hf.held
      exact m2.not_cells e)
/-- The row's form, and each record's number. -/
theorem HasL.form {w : World} {v : Value} {L : List RecD} (h : HasL w v L) : ∃ a cap, v = .slice a L.length cap ∧ ∀ j (hj : j < L.length), ∃ g, a = some ⟨g, 0, none⟩ ∧ w.cell? ⟨g, j * 5 + 1, none⟩ = some (.int .i64 L[j].seq) := by
  obtain ⟨l, rfl, h2, h3⟩ := h
  obtain ⟨a, cap, rfl⟩ := ownsRow_slice h2
  refine ⟨a, cap, by simp, fun j hj => ?_⟩
  have hj' : j < l.length := by simpa using hj
  rcases h2.2 with ⟨e1, e2⟩ | ⟨g, cap', cur, e1, -⟩
  · omega
  · simp only [Value.slice.injEq] at e1
    obtain ⟨rfl, -, rfl⟩ := e1
    refine ⟨g, rfl, ?_⟩
    rw [h2.cellAt (j * 5 + 1) (by omega), flat5 l j 1 hj' (by omega)]
    simp [Pl.cells5]
theorem HasL.recs {w : World} {v : Value} {L : List RecD} (h : HasL w v L) : IsRecs w v L := by
  obtain ⟨l, rfl, h2, h3⟩ := h
  exact recs_of_row h2 h3

/-- What is no filter and no map is as it was. -/
def Kept (w w' : World) : Prop := ∀ (k : Nat) (c : Array Value) (t : TypeId) (f : Nat × Nat), w.heap[k]? = some (.cells c t f) → t ≠ 69 → w'.heap[k]? = w.heap[k]?
theorem kept_below {w w' : World} (h : Below w.heap.size w w') : Kept w w' := fun k _ _ _ e _ => h.block k (ltAt e)
theorem kept_touch {w w' : World} {p b : Nat} {F : FilD} (hf : IsFil w p b F) (t : Touch (onFil p b) w w') : Kept w w' := fun k c ty f e hty => t.block k (ltAt e) (by
  rintro (rfl | rfl)
  · rw [hf.head] at e
    simp only [Option.some.injEq, Obj.cells.injEq] at e
    exact hty e.2.1.symm
  · obtain ⟨M, -, m2, -⟩ := hf.held
    exact m2.not_cells e)
theorem Kept.trans {a b c : World} (h : Kept a b) (k : Kept b c) : Kept a c := fun i x t f e ht => (k i x t f ((h i x t f e ht).trans e) ht).trans (h i x t f e ht)
theorem HasL.kept {w w' : World} {v : Value} {L : List RecD} (h : HasL w v L) (k : Kept w w') : HasL w' v L := h.keep fun i c t e ht => k i c t _ e (by rcases ht with rfl | rfl <;> decide)
theorem Boxed.kept7 {w w' : World} {B : Nat} {t : TypeId} {v : Value} (h : Boxed w B t v) (k : Kept w w') (ht : t ≠ 69) : Boxed w' B t v := boxed_of_heap h (k _ _ _ _ h ht)

/-- Since w0 there is a filter, all its memory made since. -/
structure AtF (w0 w : World) (p b : Nat) (F : FilD) : Prop where
  fil : IsFil w p b F
  lowp : w0.heap.size ≤ p
  lowb : w0.heap.size ≤ b
  bel : Below w0.heap.size w0 w
theorem AtF.step {w0 w w' : World} {p b : Nat} {F G : FilD} (h : AtF w0 w p b F) (hf : IsFil w' p b G) (t : Touch (onFil p b) w w') : AtF w0 w' p b G :=
  ⟨hf, h.lowp, h.lowb, h.bel.trans (t.below h.bel.size fun k _ hk => by rcases hk with rfl | rfl; exact h.lowp; exact h.lowb)⟩
theorem AtF.new {w0 w w' : World} {p b : Nat} {F : FilD} (h : AtF w0 w p b F) (hb : Below w.heap.size w w') : AtF w0 w' p b F := ⟨h.fil.keep hb, h.lowp, h.lowb, h.bel.trans (hb.mono h.bel.size)⟩
theorem AtF.set {w0 w : World} {p b : Nat} {F : FilD} (h : AtF w0 w p b F) {B : Nat} {t : TypeId} {x v : Value} (hb : Boxed w B t x) (hB : w0.heap.size ≤ B) (ht : t ≠ 69 ∧ t ≠ 3) : AtF w0 (w.setCell ⟨B, 0, none⟩ v) p b F := by
  refine ⟨h.fil.keep' (Below.heap_setCell _ _ _ _ ?_) (Below.heap_setCell _ _ _ _ ?_) fun k c e => Below.heap_setCell _ _ _ _ ?_, h.lowp, h.lowb, h.bel.setCell (p := ⟨B, 0, none⟩) hB v⟩
  · intro e
    have e' : p = B := e
    unfold Boxed at hb
    rw [← e', h.fil.head] at hb
    simp only [Option.some.injEq, Obj.cells.injEq] at hb
    exact ht.1 hb.2.1.symm
  · intro e
    have e' : b = B := e
    obtain ⟨M, -, m2, -⟩ := h.fil.held
    unfold Boxed at hb
    rw [← e'] at hb
    exact m2.not_cells hb
  · intro e'
    have e2 : k = B := e'
    unfold Boxed at hb
    rw [← e2, e] at hb
    simp only [Option.some.injEq, Obj.cells.injEq] at hb
    exact ht.2 hb.2.1.symm

section
variable {w0 : World} {p b : Nat} {F : FilD}
theorem put_on (v : Value) (r : RecD) (c : Int) (G : FilD) (hc : putE F r = c) (hG : putF F r = G) (hl : r.dep.length ≤ 70) (hk : r.key.size ≤ 50) (hvl : r.val.size ≤ 50) (w : World) (hf : AtF w0 w p b F) (hv : IsRec w v r) :
    Calls Try.prog 12 #[.pointer (some ⟨p, 0, none⟩), v] w fun e w' => e = .returned (.int .i64 c) ∧ AtF w0 w' p b G ∧ Kept w w' :=
  (filPut_calls p b F v r c G hc hG w hf.fil hv (by omega) (by omega) (by omega)).mono fun e w' ⟨h1, h2, h3⟩ => ⟨h1, hf.step h2 h3, kept_touch hf.fil h3⟩
theorem first_on (o : Option RecD) (ho : firstF F = o) (w : World) (hf : AtF w0 w p b F) :
    Calls Try.prog 21 #[.pointer (some ⟨p, 0, none⟩)] w fun e w' => ∃ v, e = .returned (.tuple #[v, .bool o.isSome]) ∧ OwnRec 0 w' v (o.getD zeroR) ∧ AtF w0 w' p b F ∧ Kept w w' :=
  (filFirst_calls p b F o ho w hf.fil).mono fun e w' ⟨v, h1, h2, h3⟩ => ⟨v, h1, h2.low (Nat.zero_le _), hf.new h3, kept_below h3⟩
theorem reset_on (n c : Int) (G : FilD) (hc : resetE n = c) (hG : resetF F n = G) (w : World) (hf : AtF w0 w p b F) :
    Calls Try.prog 18 #[.pointer (some ⟨p, 0, none⟩), .int .i64 n] w fun e w' => e = .returned (.int .i64 c) ∧ AtF w0 w' p b G ∧ Kept w w' :=
  (filReset_calls p b F n c G hc hG w hf.fil).mono fun e w' ⟨h1, h2, h3⟩ => ⟨h1, hf.step h2 h3, kept_touch hf.fil h3⟩
theorem taken_on (most : Nat) (hm : 1 ≤ most) (hm2 : most ≤ 9223372036854775807) (L : List RecD) (G : FilD) (hL : (readyL F).take most = L) (hG : takesF (min most (readyL F).length) F = G) (w : World) (hf : AtF w0 w p b F) :
    Calls Try.prog 15 #[.pointer (some ⟨p, 0, none⟩), .int .i64 (most : Int)] w fun e w' => ∃ v, e = .returned (.tuple #[v, .bool true]) ∧ HasL w' v L ∧ AtF w0 w' p b G ∧ Kept w w' := by
  subst hL
  subst hG
  exact (taken_some p b F most hm hm2 w hf.fil).mono fun e w' ⟨v, h1, h2, h3, h4⟩ => ⟨v, h1, h2, hf.step h3 h4, kept_touch hf.fil h4⟩
end

end Go.Proofs.Ytompaldhnbcikaa

/- The laws' few calls on a filter. Own work; no statement. -/
set_option linter.unusedSimpArgs false
set_option linter.unusedVariables false
namespace Go.Proofs.Ytompaldhnbcikaa
open Go.RowKit Go.Shelf Go.Sort

/-- What few tells. -/
def FewF (l : List ActF) (e : Ending) : Prop := ∃ b : Bool, e = .returned (.bool b) ∧ (b = true → l.length ≤ 80 ∧ ∀ x ∈ l, fewR x.r = true)
set_option maxHeartbeats 2000000 in
theorem few7_calls (v : Value) (l : List ActF) (w : World) (hv : IsActsF w v l) :
    Calls Try.prog 9 #[v] w fun e w' => FewF l e ∧ RowKit.Below w.heap.size w w' := by
  obtain ⟨a, cap, rfl, hcell⟩ := hv
  have Hc := hide hcell
  clear hcell
  by_cases hl : l.length ≤ 80
  · have hlI : ¬ (80 : Int) < (l.length : Int) := by omega
    go_enter Try.func9, Try.ntmps9
    go_wp2_with fail
    go_loopw [3] (fun x wr => ∃ k : Nat, k ≤ l.length ∧ x = .int .i64 (k : Int) ∧ RowKit.Below w.heap.size w wr ∧ ∀ j (hj : j < l.length), j < k → fewR (l[j]).r = true) (fun x _ => l.length - (intOf x).toNat)
    case atStart => exact ⟨0, Nat.zero_le _, rfl, RowKit.Below.refl _ _, fun j _ h2 => by omega⟩
    case round =>
      obtain ⟨k, hk, rfl, hb, hall⟩ := hrel
      have Hall := hide hall
      clear hall
      by_cases hlt : k < l.length
      · have hltI : (k : Int) < (l.length : Int) := by omega
        obtain ⟨b, o, rfl, hat⟩ := Hc.out k hlt
        obtain ⟨-, -, c2, c3, ⟨da, dc, c4, hn⟩, c5, c6⟩ := hat.below hb
        obtain ⟨c, hcc⟩ : ∃ c, fewR (l[k]).r = c := ⟨_, rfl⟩
        have Hcc : Hid (∀ j (hj : j < l.length), j = k → fewR (l[j]).r = c) := hide fun j hj e => by subst e; exact hcc
        clear hat
        generalize (l[k]).r = r at *
        have C := hide (fun w hv => recFew_calls (.agg #[.int .i64 r.site, .int .i64 r.seq, .slice da r.dep.length dc, .string r.key, .string r.val]) r w hv)
        rw [hcc] at C
        clear hcc
        have Hn := hide hn
        clear hn
        go_wp2_with fail
        refine (C.out _ ⟨da, dc, rfl, Hn.out⟩).mono ?_
        rintro e w1 ⟨rfl, b1⟩
        cases c with
        | true =>
          go_wp2_with fail
          refine ⟨⟨k + 1, by omega, by go_num, hb.trans (b1.mono hb.size), fun j hj h3 => ?_⟩, by simp [intOf]; omega⟩
          by_cases e : j = k
          · exact Hcc.out j hj e
          · exact Hall.out j hj (by omega)
        | false =>
          go_wp2_with fail
          go_ret
          exact ⟨⟨_, rfl, fun h => by cases h⟩, hb.trans (b1.mono hb.size)⟩
      · have hltI : ¬ (k : Int) < (l.length : Int) := by omega
        go_wp2
        go_ret
        refine ⟨⟨_, rfl, fun _ => ⟨hl, fun x hx => ?_⟩⟩, hb⟩
        obtain ⟨j, hj, rfl⟩ := List.mem_iff_getElem.1 hx
        exact Hall.out j hj (by omega)
  · have hlI : (80 : Int) < (l.length : Int) := by omega
    go_enter Try.func9, Try.ntmps9
    go_wp2
    go_ret
    exact ⟨⟨_, rfl, fun h => by cases h⟩, RowKit.Below.refl _ _⟩

end Go.Proofs.Ytompaldhnbcikaa

/- The laws' known of filters. Own work; no statement. -/
set_option linter.unusedSimpArgs false
set_option linter.unusedVariables false
namespace Go.Proofs.Ytompaldhnbcikaa
open Go.RowKit Go.Shelf Go.Sort

def kF0 : FilD := ⟨1, 3, 1, []⟩
def kF1 : FilD := ⟨1, 3, 1, [rR 2]⟩
def kF2 : FilD := ⟨1, 3, 1, [rR 2, rR 1]⟩
def kF3 : FilD := ⟨1, 3, 3, []⟩
theorem kE1 : putE kF0 (rR 2) = 0 := by decide +kernel
theorem kG1 : putF kF0 (rR 2) = kF1 := by kernel_rfl
theorem kE2 : putE kF1 (rR 4) = 6 := by decide +kernel
theorem kG2 : putF kF1 (rR 4) = kF1 := by kernel_rfl
theorem kE3 : putE kF1 (rR 1) = 0 := by decide +kernel
theorem kG3 : putF kF1 (rR 1) = kF2 := by kernel_rfl
theorem kE4 : putE kF2 (rR 2) = 5 := by decide +kernel
theorem kG4 : putF kF2 (rR 2) = kF2 := by kernel_rfl
theorem kO1 : firstF kF1 = none := by kernel_rfl
theorem kO2 : firstF kF2 = some (rR 1) := by kernel_rfl
theorem kL : (readyL kF2).take 9 = [rR 1, rR 2] := by kernel_rfl
theorem kG5 : takesF (min 9 (readyL kF2).length) kF2 = kF3 := by kernel_rfl
theorem kE6 : putE kF3 (rR 1) = 5 := by decide +kernel
theorem kG6 : putF kF3 (rR 1) = kF3 := by kernel_rfl
theorem kE7 : resetE 1 = 0 := by decide +kernel
theorem kG7 : resetF kF3 1 = kF0 := by kernel_rfl

set_option maxRecDepth 100000 in
set_option maxHeartbeats 8000000 in
theorem filKnown_calls (w : World) : Calls Try.prog 8 #[] w fun e w' => e = .returned (.bool true) ∧ Below w.heap.size w w' := by
  go_enter Try.func8, Try.ntmps8
  go_wp2_with fail
  refine (filNew_calls 1 3 w (by decide)).mono ?_
  rintro e w1 ⟨rfl, hf, hb⟩
  have A1 : AtF w w1 (w.heap.size + 1) w.heap.size kF0 := ⟨hf, by omega, Nat.le_refl _, hb⟩
  generalize w.heap.size + 1 = p at *
  generalize hbb : w.heap.size = b at A1
  clear hf hb hbb
  go_wp2_with fail
  refine (lawR7_calls 2 w1).mono ?_
  rintro e w2 ⟨v, rfl, hv, hb⟩
  have A2 := A1.new hb
  clear A1 hb
  go_wp2_with fail
  refine (put_on v (rR 2) 0 kF1 kE1 kG1 (by decide) (by decide) (by decide) w2 A2 hv).mono ?_
  rintro e w3 ⟨rfl, A3, -⟩
  clear A2 hv
  go_wp2_with fail
  refine (first_on none kO1 w3 A3).mono ?_
  rintro e w4 ⟨v1, rfl, ⟨vd, rfl, hr1⟩, A4, -⟩
  clear A3
  obtain ⟨va, vc, rfl⟩ := ownsRow_slice hr1
  clear hr1
  dsimp only [Option.getD_none, zeroR, List.length_nil, Option.isSome_none]
  go_wp2_with fail
  have A5 := A4.new (box_below w4 (.cells #[.int .i64 0, .int .i64 0, .slice va 0 vc, .string ⟨#[]⟩, .string ⟨#[]⟩] 35))
  generalize w4.alloc (.cells #[.int .i64 0, .int .i64 0, .slice va 0 vc, .string ⟨#[]⟩, .string ⟨#[]⟩] 35) = w5 at *
  clear A4
  refine (lawR7_calls 4 w5).mono ?_
  rintro e w6 ⟨v, rfl, hv, hb⟩
  have A6 := A5.new hb
  clear A5 hb
  go_wp2_with fail
  refine (put_on _ (rR 4) 6 kF1 kE2 kG2 (by decide) (by decide) (by decide) w6 A6 hv).mono ?_
  rintro e w7 ⟨rfl, A7, -⟩
  clear A6 hv
  go_wp2_with fail
  refine (lawR7_calls 1 w7).mono ?_
  rintro e w8 ⟨v, rfl, hv, hb⟩
  have A8 := A7.new hb
  clear A7 hb
  go_wp2_with fail
  refine (put_on _ (rR 1) 0 kF2 kE3 kG3 (by decide) (by decide) (by decide) w8 A8 hv).mono ?_
  rintro e w9 ⟨rfl, A9, -⟩
  clear A8 hv
  go_wp2_with fail
  refine (lawR7_calls 2 w9).mono ?_
  rintro e w10 ⟨v, rfl, hv, hb⟩
  have A10 := A9.new hb
  clear A9 hb
  go_wp2_with fail
  refine (put_on _ (rR 2) 5 kF2 kE4 kG4 (by decide) (by decide) (by decide) w10 A10 hv).mono ?_
  rintro e w11 ⟨rfl, A11, -⟩
  clear A10 hv
  go_wp2_with fail
  refine (first_on (some (rR 1)) kO2 w11 A11).mono ?_
  rintro e w12 ⟨v2, rfl, ⟨vd, rfl, hr1⟩, A12, -⟩
  clear A11
  obtain ⟨xa, xc, rfl⟩ := ownsRow_slice hr1
  clear hr1
  dsimp only [Option.getD_some, rR, List.length_nil, Option.isSome_some]
  go_wp2_with fail
  have A13 := A12.new (box_below w12 (.cells #[.int .i64 1, .int .i64 1, .slice xa 0 xc, .string ⟨#[107]⟩, .string ⟨#[]⟩] 35))
  have hx13 := World.alloc_heap_new w12 (.cells #[.int .i64 1, .int .i64 1, .slice xa 0 xc, .string ⟨#[107]⟩, .string ⟨#[]⟩] 35)
  generalize w12.alloc (.cells #[.int .i64 1, .int .i64 1, .slice xa 0 xc, .string ⟨#[107]⟩, .string ⟨#[]⟩] 35) = w13 at *
  generalize w12.heap.size = X at *
  clear A12
  refine (taken_on 9 (by decide) (by decide) [rR 1, rR 2] kF3 kL kG5 w13 A13).mono ?_
  rintro e w14 ⟨vl, rfl, hl, A14, k14⟩
  have hx14 := (k14 _ _ _ _ hx13 (by decide)).trans hx13
  clear A13 hx13 k14
  obtain ⟨la, lc, rfl, hlc⟩ := hl.form
  have hlc1 := hlc 1 (by decide)
  obtain ⟨lg, rfl, hc1⟩ := hlc1
  replace hc1 := World.block_lt_of_cell? w14 _ hc1
  clear hlc hc1
  dsimp only [List.length_cons, List.length_nil]
  go_wp2_with fail
  refine (lawR7_calls 1 w14).mono ?_
  rintro e w15 ⟨v, rfl, hv, hb⟩
  have A15 := A14.new hb
  replace hl := hl.below hb
  replace hx14 := keepB hx14 hb
  clear A14 hb
  go_wp2_with fail
  refine (put_on _ (rR 1) 5 kF3 kE6 kG6 (by decide) (by decide) (by decide) w15 A15 hv).mono ?_
  rintro e w16 ⟨rfl, A16, k16⟩
  replace hl := hl.kept k16
  replace hx14 := (k16 _ _ _ _ hx14 (by decide)).trans hx14
  clear A15 hv k16
  go_wp2_with fail
  refine (reset_on 1 0 kF0 kE7 kG7 w16 A16).mono ?_
  rintro e w17 ⟨rfl, A17, k17⟩
  replace hl := hl.kept k17
  replace hx14 := (k17 _ _ _ _ hx14 (by decide)).trans hx14
  clear A16 k17
  obtain ⟨x0, x1, x2, x3, x4, -, -, -, -, -⟩ := cells5F hx14
  obtain ⟨la', lc', e1, hlc⟩ := hl.form
  obtain ⟨lg', e2, hc1⟩ := hlc 1 (by decide)
  have hg : lg' = lg := by
    simp only [Value.slice.injEq] at e1
    rw [e2] at e1
    simpa using e1.1.symm
  subst hg
  have hc1' : w17.cell? ⟨lg', 6, none⟩ = some (.int .i64 2) := hc1
  clear hlc e1 e2 hc1 hx14
  go_wp2_with fail
  refine (filNext_calls p b kF0 w17 A17.fil).mono ?_
  rintro e w' ⟨rfl, rfl⟩
  dsimp only [kF0]
  go_wp2_with fail
  refine (filLen_calls p b kF0 _ A17.fil).mono ?_
  rintro e w' ⟨rfl, rfl⟩
  dsimp only [kF0, List.length_nil]
  go_wp2_with fail
  go_ret
  exact ⟨rfl, A17.bel⟩

end Go.Proofs.Ytompaldhnbcikaa

/- What the laws of filters share: numbers, any filter's calls with a record of site 1. Own work; no statement. -/
set_option linter.unusedSimpArgs false
set_option linter.unusedVariables false
namespace Go.Proofs.Ytompaldhnbcikaa
open Go.RowKit Go.Shelf Go.Sort

theorem rng8F {n : Int} (h : (Lit.int .u8 n).wf = true) : 0 ≤ n ∧ n ≤ 255 := by
  have h' : (decide (IntKind.u8.min ≤ n) && decide (n ≤ IntKind.u8.max)) = true := h
  simp only [Bool.and_eq_true, decide_eq_true_eq] at h'
  exact h'
theorem rng16F {n : Int} (h : (Lit.int .u16 n).wf = true) : 0 ≤ n ∧ n ≤ 65535 := by
  have h' : (decide (IntKind.u16.min ≤ n) && decide (n ≤ IntKind.u16.max)) = true := h
  simp only [Bool.and_eq_true, decide_eq_true_eq] at h'
  exact h'
theorem rng64F {n : Int} (h : (Lit.int .i64 n).wf = true) : -9223372036854775808 ≤ n ∧ n ≤ 9223372036854775807 := by
  have h' : (decide (IntKind.i64.min ≤ n) && decide (n ≤ IntKind.i64.max)) = true := h
  simp only [Bool.and_eq_true, decide_eq_true_eq] at h'
  exact h'
theorem rem_natF {n m : Int} (h : 0 ≤ n) (hm : 0 < m) : ∃ k : Nat, Int.tmod n m = (k : Int) ∧ (k : Int) < m := by
  have h1 := Int.emod_nonneg n (show m ≠ 0 by omega)
  have h2 := Int.emod_lt_of_pos n hm
  refine ⟨(n % m).toNat, ?_, by omega⟩
  rw [Int.tmod_eq_emod_of_nonneg h]
  omega

theorem check_rR {n : Int} (h : 1 ≤ n ∧ n ≤ 1048576) : checkR (rR n) 8 = 0 := by
  have h1 : checkL [] 8 = 0 := by decide +kernel
  have h2 : geti [] 1 = 0 := by decide +kernel
  have h3 : isKeyL [107] = true := by decide +kernel
  have h4 : checkValL [] = 0 := by decide +kernel
  unfold checkR rR
  dsimp only
  rw [if_neg (by omega), if_pos h1, h2, if_neg (by omega), h3, if_pos rfl]
  exact h4
/-- What Put tells of the n-th record of site 1. -/
theorem putE_rR {F : FilD} (hs : F.site = 1) {n : Int} (h : 1 ≤ n ∧ n ≤ 1048576) : putE F (rR n) = if (F.L.any fun x => decide (x.seq = n)) || decide (n < F.next) then 5 else if F.next + F.room ≤ n then 6 else 0 := by
  unfold putE
  rw [if_pos (check_rR h), if_pos (by rw [hs]; rfl)]
  rfl
theorem putE_new {F : FilD} (hs : F.site = 1) {n : Int} (h : 1 ≤ n ∧ n ≤ 1048576) (h1 : ∀ x ∈ F.L, x.seq ≠ n) (h2 : F.next ≤ n) (h3 : n < F.next + F.room) : putE F (rR n) = 0 ∧ putF F (rR n) = ⟨F.site, F.room, F.next, F.L ++ [rR n]⟩ := by
  have : putE F (rR n) = 0 := by
    rw [putE_rR hs h, if_neg ?_, if_neg (by omega)]
    simp only [Bool.or_eq_true, List.any_eq_true, decide_eq_true_eq, not_or, not_exists, not_and]
    exact ⟨h1, by omega⟩
  exact ⟨this, if_pos this⟩
theorem putE_low {F : FilD} (hs : F.site = 1) {n : Int} (h : 1 ≤ n ∧ n ≤ 1048576) (h1 : n < F.next) : putE F (rR n) = 5 ∧ putF F (rR n) = F := by
  have : putE F (rR n) = 5 := by
    rw [putE_rR hs h, if_pos (by simp [h1])]
  exact ⟨this, putF_no this (by decide)⟩
theorem putE_twice {F : FilD} (hs : F.site = 1) {n : Int} (h : 1 ≤ n ∧ n ≤ 1048576) {x : RecD} (hx : x ∈ F.L) (hn : x.seq = n) : putE F (rR n) = 5 ∧ putF F (rR n) = F := by
  have : putE F (rR n) = 5 := by
    rw [putE_rR hs h, if_pos ?_]
    simp only [Bool.or_eq_true, List.any_eq_true, decide_eq_true_eq]
    exact .inl ⟨x, hx, hn⟩
  exact ⟨this, putF_no this (by decide)⟩
theorem putE_far {F : FilD} (hs : F.site = 1) {n : Int} (h : 1 ≤ n ∧ n ≤ 1048576) (h1 : ∀ x ∈ F.L, x.seq ≠ n) (h2 : F.next + F.room ≤ n) (h3 : 1 ≤ F.room) : putE F (rR n) = 6 ∧ putF F (rR n) = F := by
  have : putE F (rR n) = 6 := by
    rw [putE_rR hs h, if_neg ?_, if_pos h2]
    simp only [Bool.or_eq_true, List.any_eq_true, decide_eq_true_eq, not_or, not_exists, not_and]
    exact ⟨h1, by omega⟩
  exact ⟨this, putF_no this (by decide)⟩
theorem putR_on {w0 : World} {p b : Nat} {F : FilD} (v : Value) (n c : Int) (G : FilD) (h : putE F (rR n) = c ∧ putF F (rR n) = G) (w : World) (hf : AtF w0 w p b F) (hv : IsRec w v (rR n)) :
    Calls Try.prog 12 #[.pointer (some ⟨p, 0, none⟩), v] w fun e w' => e = .returned (.int .i64 c) ∧ AtF w0 w' p b G ∧ Kept w w' :=
  put_on v (rR n) c G h.1 h.2 (by simp [rR]) (by show 1 ≤ 50; decide) (by show 0 ≤ 50; decide) w hf hv
theorem new_at {s r : Int} {w w1 : World} (h : IsFil w1 (w.heap.size + 1) w.heap.size ⟨s, r, 1, []⟩) (hb : RowKit.Below w.heap.size w w1) {w0 : World} (h0 : RowKit.Below w0.heap.size w0 w) : ∃ p b, p = w.heap.size + 1 ∧ AtF w0 w1 p b ⟨s, r, 1, []⟩ :=
  ⟨_, _, rfl, h, by have := h0.size; omega, h0.size, h0.trans (hb.mono h0.size)⟩

end Go.Proofs.Ytompaldhnbcikaa

/- Records that came the wrong way round: which are ready. Own work; no statement. -/
set_option linter.unusedSimpArgs false
set_option linter.unusedVariables false
namespace Go.Proofs.Ytompaldhnbcikaa
open Go.RowKit Go.Shelf Go.Sort

/-- The records from m + c down to m + 1. -/
def descL (m : Nat) : Nat → List RecD
  | 0 => []
  | c + 1 => rR ((m : Int) + (c : Int) + 1) :: descL m c
/-- The records from m + 1 up, c of them. -/
def upL (m c : Nat) : List RecD := (List.range c).map fun (i : Nat) => rR ((m : Int) + (i : Int) + 1)
theorem upL_length (m c : Nat) : (upL m c).length = c := by simp [upL]
theorem upL_get (m c i : Nat) (h : i < (upL m c).length) : (upL m c)[i].seq = (m : Int) + (i : Int) + 1 := by simp [upL, rR]
theorem descL_length (m : Nat) : ∀ c, (descL m c).length = c
  | 0 => rfl
  | c + 1 => by simp [descL, descL_length m c]
theorem descL_mem (m : Nat) : ∀ (c : Nat) (r : RecD), r ∈ descL m c → (m : Int) + 1 ≤ r.seq ∧ r.seq ≤ (m : Int) + (c : Int)
  | 0, r, h => by cases h
  | c + 1, r, h => by
    rcases List.mem_cons.1 h with rfl | h
    · simp [rR]; omega
    · have := descL_mem m c r h
      omega
theorem descL_snoc (m : Nat) : ∀ c, descL m (c + 1) = descL (m + 1) c ++ [rR ((m : Int) + 1)]
  | 0 => by simp [descL]
  | c + 1 => by
    rw [descL, descL_snoc m c, descL]
    simp only [List.cons_append]
    congr 2
    omega

/-- A filter that holds c records from its next one on, the last ones first. -/
def descF (m c : Nat) : FilD := ⟨1, 64, (m : Int) + 1, descL m c⟩
theorem descF_first (m c : Nat) : firstF (descF m (c + 1)) = some (rR ((m : Int) + 1)) := by
  unfold firstF descF
  dsimp only
  rw [descL_snoc, List.find?_append, List.find?_eq_none.2]
  · simp [rR]
  · intro r hr
    have := descL_mem (m + 1) c r hr
    simp
    omega
theorem descF_none (m : Nat) : firstF (descF m 0) = none := rfl
theorem descF_take (m c : Nat) : takeF (descF m (c + 1)) = descF (m + 1) c := by
  unfold takeF descF
  dsimp only
  rw [descL_snoc, List.filter_append, List.filter_eq_self.2]
  · simp [rR]
  · intro r hr
    have := descL_mem (m + 1) c r hr
    simp
    omega
theorem descF_takes : ∀ (j m c : Nat), j ≤ c → takesF j (descF m c) = descF (m + j) (c - j)
  | 0, m, c, _ => rfl
  | j + 1, m, c, h => by
    obtain ⟨c', rfl⟩ : ∃ c', c = c' + 1 := ⟨c - 1, by omega⟩
    rw [takesF, descF_take, descF_takes j (m + 1) c' (by omega)]
    congr 1
    · omega
    · omega
theorem upL_cons (m c : Nat) : upL m (c + 1) = rR ((m : Int) + 1) :: upL (m + 1) c := by
  unfold upL
  rw [List.range_succ_eq_map, List.map_cons, List.map_map]
  congr 1
  refine List.map_congr_left fun i _ => ?_
  simp only [Function.comp_apply]
  congr 1
  omega
theorem descF_ready : ∀ (c m : Nat), (descF m c).ok → readyL (descF m c) = upL m c
  | 0, m, h => (readyL_none (descF_none m)).trans rfl
  | c + 1, m, h => by
    have h1 := descF_first m c
    have := takeF_ok h h1
    rw [descF_take] at this
    rw [readyL_some h h1, descF_take, descF_ready c (m + 1) this, upL_cons]

theorem hasL_nil (w : World) : HasL w (.slice none 0 0) [] := ⟨[], rfl, World.ownsRow_nil _ _ _ _, fun q hq => by cases hq⟩
/-- Taken, however many are asked. -/
theorem taken_any {w0 : World} {p b : Nat} {F : FilD} (most : Nat) (hm2 : most ≤ 9223372036854775807) (w : World) (hf : AtF w0 w p b F) :
    Calls Try.prog 15 #[.pointer (some ⟨p, 0, none⟩), .int .i64 (most : Int)] w fun e w' => ∃ v, e = .returned (.tuple #[v, .bool true]) ∧ HasL w' v ((readyL F).take most) ∧ AtF w0 w' p b (takesF (min most (readyL F).length) F) ∧ Kept w w' := by
  by_cases h : 1 ≤ most
  · exact taken_on most h hm2 _ _ rfl rfl w hf
  · obtain rfl : most = 0 := by omega
    refine (taken_none p b F 0 (Int.le_refl _) w hf.fil).mono ?_
    rintro e w' ⟨h1, h2⟩
    refine ⟨_, h1, ?_, ?_, kept_below h2⟩
    · rw [List.take_zero]
      exact hasL_nil w'
    · rw [Nat.zero_min]
      exact hf.new h2

end Go.Proofs.Ytompaldhnbcikaa

/- Records that come in any order: what goes on, what is held. Own work; no statement. -/
set_option linter.unusedSimpArgs false
set_option linter.unusedVariables false
namespace Go.Proofs.Ytompaldhnbcikaa
open Go.RowKit Go.Shelf Go.Sort

theorem takesF_site : ∀ (j : Nat) (H : FilD), (takesF j H).site = H.site ∧ (takesF j H).room = H.room
  | 0, _ => ⟨rfl, rfl⟩
  | j + 1, H => takesF_site j (takeF H)
/-- What is not taken stays. -/
theorem takesF_stay : ∀ (j : Nat) (F : FilD) (r : RecD), r ∈ F.L → F.next + (j : Int) ≤ r.seq → r ∈ (takesF j F).L
  | 0, _, _, h, _ => h
  | j + 1, F, r, h, hs => by
    refine takesF_stay j (takeF F) r ?_ ?_
    · refine List.mem_filter.2 ⟨h, ?_⟩
      simp
      omega
    · simp [takeF]
      omega

/-- Of the records of site 1 up to k those up to m were here; none that is held may go on. -/
structure OrdF (k : Int) (m : Int) (F : FilD) : Prop where
  ok : F.ok
  site : F.site = 1
  room : F.room = 64
  next : F.next ≤ k + 1
  each : ∀ r ∈ F.L, r.seq ≤ k
  here : ∀ x, 1 ≤ x → x ≤ m → x < F.next ∨ ∃ r ∈ F.L, r.seq = x

theorem ordF_put {k m : Int} {F : FilD} (h : OrdF k m F) {s : Int} (hs : 1 ≤ s) (hk : s ≤ k) (hk2 : k ≤ 20) : OrdF k m (putF F (rR s)) ∧ (s < (putF F (rR s)).next ∨ ∃ r ∈ (putF F (rR s)).L, r.seq = s) := by
  have hn := h.ok.next0
  have h20 : 1 ≤ s ∧ s ≤ 1048576 := by omega
  by_cases h1 : s < F.next
  · rw [(putE_low h.site h20 h1).2]
    exact ⟨h, .inl h1⟩
  · by_cases h2 : ∃ r ∈ F.L, r.seq = s
    · obtain ⟨r, hr, he⟩ := h2
      rw [(putE_twice h.site h20 hr he).2]
      exact ⟨h, .inr ⟨r, hr, he⟩⟩
    · have h3 : ∀ x ∈ F.L, x.seq ≠ s := fun x hx e => h2 ⟨x, hx, e⟩
      have hr := h.room
      have hok := putF_ok h.ok (rR s)
      rw [(putE_new h.site h20 h3 (by omega) (by omega)).2] at hok ⊢
      refine ⟨⟨hok, h.site, h.room, h.next, ?_, ?_⟩, .inr ⟨rR s, by simp, rfl⟩⟩
      · intro r hr
        rcases List.mem_append.1 hr with hr | hr
        · exact h.each r hr
        · rw [List.mem_singleton.1 hr]
          exact hk
      · intro x h1 h2
        rcases h.here x h1 h2 with h | ⟨r, hr, he⟩
        · exact .inl h
        · exact .inr ⟨r, List.mem_append.2 (.inl hr), he⟩

theorem ordF_takes {k m : Int} {F : FilD} (h : OrdF k m F) : OrdF k m (takesF (readyL F).length F) ∧ firstF (takesF (readyL F).length F) = none ∧ (takesF (readyL F).length F).next = F.next + ((readyL F).length : Int) := by
  have hnx := takesF_next (readyL F).length F
  refine ⟨⟨(readyL_takes _ F h.ok (Nat.le_refl _)).1, (takesF_site _ F).1.trans h.site, (takesF_site _ F).2.trans h.room, ?_, fun r hr => h.each r (takesF_sub _ F r hr), ?_⟩, ?_, hnx⟩
  · rw [hnx]
    cases hl : (readyL F).length with
    | zero => have := h.next; simp; omega
    | succ c =>
      have h1 := readyL_seq h.ok c (by omega)
      have h2 := h.each _ (readyL_mem h.ok c (by omega))
      omega
  · intro x h1 h2
    rw [hnx]
    by_cases hx : x < F.next + ((readyL F).length : Int)
    · exact .inl hx
    · rcases h.here x h1 h2 with h' | ⟨r, hr, he⟩
      · omega
      · exact .inr ⟨r, takesF_stay _ F r hr (by omega), he⟩
  · rw [readyL_first h.ok _ (Nat.le_refl _)]
    exact List.getElem?_eq_none (Nat.le_refl _)

theorem putF_next (F : FilD) (r : RecD) : (putF F r).next = F.next := by
  unfold putF
  split <;> rfl
/-- One more came, and what may go on is taken. -/
theorem ordF_next {k m m' : Int} {F : FilD} (h : OrdF k m F) {s : Int} (hs : 1 ≤ s) (hk : s ≤ k) (hk2 : k ≤ 20) (hm : m' ≤ 0 ∨ m' = m + 1 ∧ s = m + 1) :
    OrdF k m' (takesF (readyL (putF F (rR s))).length (putF F (rR s))) ∧ firstF (takesF (readyL (putF F (rR s))).length (putF F (rR s))) = none ∧ (takesF (readyL (putF F (rR s))).length (putF F (rR s))).next = F.next + ((readyL (putF F (rR s))).length : Int) := by
  obtain ⟨h1, h2⟩ := ordF_put h hs hk hk2
  have h3 : OrdF k m' (putF F (rR s)) := by
    refine ⟨h1.ok, h1.site, h1.room, h1.next, h1.each, fun x x1 x2 => ?_⟩
    rcases hm with hm | ⟨hm, hm2⟩
    · omega
    · by_cases hx : x ≤ m
      · exact h1.here x x1 hx
      · obtain rfl : x = s := by omega
        exact h2
  have := ordF_takes h3
  rw [putF_next] at this
  exact this

theorem ordF_end {k : Int} {F : FilD} (hk : 0 ≤ k) (h : OrdF k k F) (hf : firstF F = none) : F.next = k + 1 ∧ F.L = [] := by
  have hn := h.ok.next0
  have h1 : F.next = k + 1 := by
    have := h.next
    by_cases hx : F.next ≤ k
    · rcases h.here F.next hn hx with h' | ⟨r, hr, he⟩
      · omega
      · exact absurd he (firstF_none hf r hr)
    · omega
  refine ⟨h1, ?_⟩
  cases hl : F.L with
  | nil => rfl
  | cons r l =>
    have hr : r ∈ F.L := by rw [hl]; simp
    have h2 := h.each r hr
    have h3 := (h.ok.each r hr).2.2.1
    omega

end Go.Proofs.Ytompaldhnbcikaa

/- The laws' Pairs: what a range over pairs of numbers tells. Own work; no statement. -/
set_option linter.unusedSimpArgs false
set_option linter.unusedVariables false
namespace Go.Proofs.Ytompaldhnbcikaa
open Go.RowKit Go.Shelf

attribute [local go_sem] Oper.semAt_some
end Go.Proofs.Ytompaldhnbcikaa

/- The laws' known(): two vectors, joined, met, in words: it answers true in whatever world that has the library's table of powers of ten. Own work; no statement. -/
set_option linter.unusedSimpArgs false
set_option linter.unusedVariables false
namespace Go.Proofs.Ytompaldhnbcikaa
open Go.RowKit Go.Shelf

theorem itoa_digit (n : Int) (h0 : 0 ≤ n) (h1 : n < 10) : Lib.itoa n = [UInt8.ofNat (48 + n.toNat)] := by
  unfold Lib.itoa
  rw [if_neg (by omega), Lib.decDigits, dif_pos (by omega)]

theorem kJoin : bySiteL max [3, 0, 2] [1, 5] = [3, 5, 2] := by decide
theorem kMeet : bySiteL min [3, 0, 2] [1, 5] = [1, 0, 0] := by decide
theorem kText1 : textL [3, 5, 2] = [91, 51, 32, 53, 32, 50, 93] := by
  have : writtenL [3, 5, 2] = 3 := by decide
  simp [textL, this, numsTo, itoa_digit]
theorem kText2 : textL [1, 0, 0] = [91, 49, 93] := by
  have : writtenL [1, 0, 0] = 1 := by decide
  simp [textL, this, numsTo, itoa_digit]
theorem kText3 : textL [] = [91, 93] := by decide
theorem kWith : withL [1, 5] 3 7 = [1, 5, 0, 7] := by decide
theorem kText4 : textL [1, 5, 0, 7] = [91, 49, 32, 53, 32, 48, 32, 55, 93] := by
  have : writtenL [1, 5, 0, 7] = 4 := by decide
  simp [textL, this, numsTo, itoa_digit]
theorem kParse1 : parseL [91, 51, 32, 48, 32, 50, 93] = ([3, 0, 2], 0) := by decide +kernel
theorem kParse2 : parseL [91, 51, 32, 48, 93] = ([], 2) := by decide +kernel
theorem kPairs1 : (pairsTo [3, 0, 2] ([3, 0, 2] : List Int).length).map (·.1) = [0, 2] := by decide
theorem kPairs2 : (pairsTo [3, 0, 2] ([3, 0, 2] : List Int).length).map (·.2) = [3, 2] := by decide
theorem kSame : everyB eqB [3, 0, 2] [3, 0, 2] = true := by decide
theorem kCov1 : everyB covB [3, 5, 2] [3, 0, 2] = true := by decide
theorem kCov2 : everyB covB [3, 0, 2] [1, 5] = false := by decide
theorem kGet : geti [3, 0, 2] 9 = 0 := by decide
theorem kSum : ([3, 0, 2] : List Int).sum = 5 := by decide
theorem kCheck1 : checkL [3, 0, 2] 2 = 4 := by decide
theorem kCheck2 : checkL [3, 0, 2] 3 = 0 := by decide

theorem alloc_below (w : World) (o : Obj) : Below w.heap.size w (w.alloc o) := (Below.refl _ w).alloc (Nat.le_refl _) o
theorem lit_nums (w : World) (x y : Int) : IsNums .i64 (w.alloc (.cells #[.int .i64 x, .int .i64 y] 3)) (.slice (some ⟨w.heap.size, 0, none⟩) 2 2) [x, y] :=
  IsNums.of_row (base := 0) (World.ownsRow_lit (e := 3) (size := 1) w #[.int .i64 x, .int .i64 y] 2 (Nat.zero_le _) (by unfold maxLen; omega) rfl)

theorem small_inR {l : List Int} (h : ∀ x ∈ l, 0 ≤ x ∧ x ≤ 1048577) : InR l := fun x hx => by have := h x hx; omega

end Go.Proofs.Ytompaldhnbcikaa

/- The laws' known(): a record there and back: it answers true in whatever world that has the library's table of powers of ten. Own work; no statement. -/
set_option linter.unusedSimpArgs false
set_option linter.unusedVariables false
namespace Go.Proofs.Ytompaldhnbcikaa
open Go.RowKit Go.Shelf Go.Sort


end Go.Proofs.Ytompaldhnbcikaa
