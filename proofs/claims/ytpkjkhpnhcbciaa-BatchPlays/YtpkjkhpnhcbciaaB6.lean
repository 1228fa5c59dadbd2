/- The laws' Taken over batches. Own work; no statement. -/
import Derived.Test.YtpkjkhpnhcbciaaB5
import Derived.Maps.OwnIn
set_option linter.unusedSimpArgs false
set_option linter.unusedVariables false
namespace Go.Proofs.Ytpkjkhpnhcbciaa
open Go.RowKit Go.Shelf

attribute [local go_sem] Oper.semAt_some

theorem box_appB {W w1 : World} {B n₀ : Nat} {T e : TypeId} {size : Nat} {v v1 : Value} {n m : Nat} {xs ys : List Value} {o : Obj} (hbx : Boxed W B T v) (hrow : W.ownsRow n₀ e size v n xs) (hB : B < n₀) (hn : n₀ ≤ W.heap.size)
    (hown1 : w1.ownsRow n₀ e size v1 m ys) (hgrow : (W.alloc o).grownBy w1 v.ownBlock) :
    Boxed w1 B T v ∧ Boxed (w1.setCell ⟨B, 0, none⟩ v1) B T v1 ∧ (w1.setCell ⟨B, 0, none⟩ v1).ownsRow n₀ e size v1 m ys ∧ KeepsOthers W (w1.setCell ⟨B, 0, none⟩ v1) ∧
      (∀ k, k < W.heap.size → k ≠ B → v.ownBlock ≠ some k → (w1.setCell ⟨B, 0, none⟩ v1).heap[k]? = W.heap[k]?) ∧ (∀ b w, b ≤ B → Below b w W → Below b w (w1.setCell ⟨B, 0, none⟩ v1)) := by
  have hne : some B ≠ v.ownBlock := fun e' => by have := (hrow.lt B e'.symm).1; omega
  have hv1 : Boxed w1 B T v := (hbx.alloc o).kept hgrow hne
  refine ⟨hv1, hv1.set v1, ownsRow_of_heap hown1 (fun k hk => Below.heap_setCell _ _ _ _ (fun e' => by have := (hown1.lt k hk).1; have e2 : k = B := e'; omega)), ?_, ?_, ?_⟩
  · refine ((KeepsOthers.alloc W o).trans (KeepsOthers.of_grownBy hgrow fun j o' ej hj => ?_)).trans (KeepsOthers.setCell _ _ _)
    rcases (hrow.alloc o).2 with ⟨rfl, _⟩ | ⟨g, cap, cur, rfl, _, hgb, _⟩
    · simp [Value.ownBlock] at ej
    · obtain rfl : g = j := by simpa [Value.ownBlock] using ej
      rw [hgb] at hj; cases hj; rfl
  · exact fun k hk hkB hkr => app_other hgrow k hk (fun e' => hkr e'.symm) hkB
  · intro b w hb h
    have := hbx.lt
    exact ((h.alloc (by omega) o).grown hgrow (by simp; omega) (fun j ej => by have := (hrow.lt j ej).1; omega)).setCell (p := ⟨B, 0, none⟩) hb v1
/-- What lies in the boxes of Taken, and in its row. -/
structure InB (o most : Nat) (xs : List Int) (W : World) (va : Value) : Prop where
  m : Boxed W o 3 (.int .i64 (most : Int))
  r1 : Boxed W (o + 1) 28 (.slice none 0 0)
  r2 : Boxed W (o + 2) 4 (.bool false)
  a : Boxed W (o + 4) 28 va
  row : W.ownsRow (o + 5) 3 1 va xs.length (xs.map (Value.int .i64))
theorem InB.keep {o most : Nat} {xs : List Int} {W W' : World} {va : Value} (h : InB o most xs W va) (hk : ∀ k, o ≤ k → k < W.heap.size → W'.heap[k]? = W.heap[k]?) : InB o most xs W' va :=
  ⟨boxed_of_heap h.m (hk _ (by omega) h.m.lt), boxed_of_heap h.r1 (hk _ (by omega) h.r1.lt), boxed_of_heap h.r2 (hk _ (by omega) h.r2.lt), boxed_of_heap h.a (hk _ (by omega) h.a.lt), ownsRow_of_heap h.row fun k e => hk k (by have := (h.row.lt k e).1; omega) (h.row.lt k e).2⟩
theorem InB.own {o most : Nat} {xs : List Int} {W W' : World} {va : Value} {row : Option Nat} (h : InB o most xs W va) (hg : W.grownBy W' row) (hr : ∀ r, row = some r → ∃ o : Obj, W.heap[r]? = some o ∧ o.isCells = false) : InB o most xs W' va :=
  ⟨boxed_own' hg hr h.m, boxed_own' hg hr h.r1, boxed_own' hg hr h.r2, boxed_own' hg hr h.a, ownsRow_own' hg hr h.row⟩
/-- One more behind the others. -/
theorem InB.app {o most : Nat} {xs : List Int} {x : Int} {W w1 : World} {va v1 : Value} {ob : Obj} (h : InB o most xs W va)
    (hown1 : w1.ownsRow (o + 5) 3 1 v1 (xs.length + 1) (xs.map (Value.int .i64) ++ [.int .i64 x])) (hgrow : (W.alloc ob).grownBy w1 va.ownBlock) :
    (Boxed w1 (o + 4) 28 va ∧ Boxed w1 o 3 (.int .i64 (most : Int)) ∧ Boxed w1 (o + 1) 28 (.slice none 0 0) ∧ Boxed w1 (o + 2) 4 (.bool false)) ∧ InB o most (xs ++ [x]) (w1.setCell ⟨o + 4, 0, none⟩ v1) v1 ∧ KeepsOthers W (w1.setCell ⟨o + 4, 0, none⟩ v1) ∧ (∀ k, k < W.heap.size → k ≠ o + 4 → va.ownBlock ≠ some k → (w1.setCell ⟨o + 4, 0, none⟩ v1).heap[k]? = W.heap[k]?) ∧
      (∀ b w, b ≤ o + 4 → Below b w W → Below b w (w1.setCell ⟨o + 4, 0, none⟩ v1)) := by
  have hlt := h.a.lt
  obtain ⟨x1, x2, x3, x4, x5, x6⟩ := box_appB h.a h.row (by omega) (by omega) hown1 hgrow
  have bk : ∀ k, k < o + 5 → k ≠ o + 4 → (w1.setCell ⟨o + 4, 0, none⟩ v1).heap[k]? = W.heap[k]? := fun k hk hne => x5 k (by omega) hne (fun e => by have := (h.row.lt k e).1; omega)
  have nb : ∀ B, B < o + 5 → some B ≠ va.ownBlock := fun B hB e' => by have := (h.row.lt B e'.symm).1; omega
  refine ⟨⟨x1, (h.m.alloc ob).kept hgrow (nb _ (by omega)), (h.r1.alloc ob).kept hgrow (nb _ (by omega)), (h.r2.alloc ob).kept hgrow (nb _ (by omega))⟩, ⟨boxed_of_heap h.m (bk _ (by omega) (by omega)), boxed_of_heap h.r1 (bk _ (by omega) (by omega)), boxed_of_heap h.r2 (bk _ (by omega) (by omega)), x2, ?_⟩, x4, x5, x6⟩
  rw [List.length_append, List.map_append]
  simpa using x3
/-- The results stored. -/
theorem InB.end {o most : Nat} {xs : List Int} {W : World} {va : Value} (h : InB o most xs W va) :
    Boxed ((W.setCell ⟨o + 1, 0, none⟩ va).setCell ⟨o + 2, 0, none⟩ (.bool true)) (o + 1) 28 va ∧ Boxed ((W.setCell ⟨o + 1, 0, none⟩ va).setCell ⟨o + 2, 0, none⟩ (.bool true)) (o + 2) 4 (.bool true) ∧
    ((W.setCell ⟨o + 1, 0, none⟩ va).setCell ⟨o + 2, 0, none⟩ (.bool true)).ownsRow (o + 5) 3 1 va xs.length (xs.map (Value.int .i64)) ∧
    KeepsOthers W ((W.setCell ⟨o + 1, 0, none⟩ va).setCell ⟨o + 2, 0, none⟩ (.bool true)) ∧ (∀ c, c ≠ o + 1 → c ≠ o + 2 → ((W.setCell ⟨o + 1, 0, none⟩ va).setCell ⟨o + 2, 0, none⟩ (.bool true)).heap[c]? = W.heap[c]?) := by
  have r2 : Boxed (W.setCell ⟨o + 1, 0, none⟩ va) (o + 2) 4 (.bool false) := boxed_of_heap h.r2 (Below.heap_setCell _ _ _ _ (by simp))
  have oth : ∀ c, c ≠ o + 1 → c ≠ o + 2 → ((W.setCell ⟨o + 1, 0, none⟩ va).setCell ⟨o + 2, 0, none⟩ (.bool true)).heap[c]? = W.heap[c]? := fun c h1 h2 => (Below.heap_setCell _ _ _ _ h2).trans (Below.heap_setCell _ _ _ _ h1)
  exact ⟨boxed_of_heap (h.r1.set va) (Below.heap_setCell _ _ _ _ (by simp)), r2.set _, ownsRow_of_heap h.row fun k e => oth k (by have := (h.row.lt k e).1; omega) (by have := (h.row.lt k e).1; omega),
    (KeepsOthers.setCell _ _ _).trans (KeepsOthers.setCell _ _ _), oth⟩

/-- The four boxes that are there ahead of the range, and what was there. -/
structure InB0 (most' : Int) (P0 : Nat) (w W : World) : Prop where
  m : Boxed W w.heap.size 3 (.int .i64 most')
  r1 : Boxed W (w.heap.size + 1) 28 (.slice none 0 0)
  r2 : Boxed W (w.heap.size + 2) 4 (.bool false)
  x : Boxed W (w.heap.size + 3) 24 (.pointer (some ⟨P0, 0, none⟩))
  sz : W.heap.size = w.heap.size + 4
  b : Below w.heap.size w W
theorem inB0_made (most' : Int) (P0 : Nat) (w : World) : InB0 most' P0 w ((((w.alloc (.cells #[.int .i64 most'] 3)).alloc (.cells #[.slice none 0 0] 28)).alloc (.cells #[.bool false] 4)).alloc (.cells #[.pointer (some ⟨P0, 0, none⟩)] 24)) :=
  ⟨(((Boxed.new w _ _).alloc _).alloc _).alloc _, ((boxed_new' (by simp)).alloc _).alloc _, (boxed_new' (by simp)).alloc _, boxed_new' (by simp), by simp, ((((Below.refl _ w).alloc (Nat.le_refl _) _).alloc (by simp) _).alloc (by simp; omega) _).alloc (by simp; omega) _⟩

set_option maxRecDepth 100000 in
set_option maxHeartbeats 4000000 in
theorem btaken_none (B p : Nat) (g : Option Nat) (D : BatD) (most : Int) (hm : most ≤ 0) (w : World) (hf : IsBat w B p g D) :
    Calls Try.prog 8 #[.pointer (some ⟨p, 0, none⟩), .int .i64 most] w fun e w' => e = .returned (.tuple #[.slice none 0 0, .bool true]) ∧ Below w.heap.size w w' := by
  have heq : ∀ (fn : Fn) (first cap : Array Value) (w : World), (binOp .eql 44 (.func fn first cap) .nilFunc).run Try.prog w = .ok (.bool false) w := fun _ _ _ _ => by kernel_rfl
  refine (callsIn_wide (n := 9)).1 ?_
  refine callsIn_of_wp_marks Try.func8 rfl trivial ?_ rfl
  simp only [Try.ntmps8, List.size_toArray, List.length_cons, List.length_nil, Nat.reduceAdd, Nat.reduceSub, Array.replicate_succ, Array.replicate_zero, List.push_toArray, List.append_toArray, List.nil_append, List.cons_append]
  have h0 := inB0_made most p w
  gi_wp2_with (refine ⟨trivial, ?_⟩; gi_at_call 14; refine ((callsIn_wide (n := _)).2 (btake_calls _ _)).mono ?_; rintro en w' ⟨rfl, rfl⟩; obtain ⟨W4, hW4⟩ : ∃ W4, ((((w.alloc (.cells #[.int .i64 most] 3)).alloc (.cells #[.slice none 0 0] 28)).alloc (.cells #[.bool false] 4)).alloc (.cells #[.pointer (some ⟨p, 0, none⟩)] 24)) = W4 := ⟨_, rfl⟩; rw [hW4] at h0; rw [hW4]; clear hW4; have cm := (h0.m.alloc (.cells #[.slice none 0 0] 28)).cell; have c1 := (h0.r1.alloc (.cells #[.slice none 0 0] 28)).cell; have g1 := (h0.r1.alloc (.cells #[.slice none 0 0] 28)).frozen; have c2 := (h0.r2.alloc (.cells #[.slice none 0 0] 28)).cell; have g2 := (h0.r2.alloc (.cells #[.slice none 0 0] 28)).frozen; (try simp only [World.size_alloc, Nat.add_assoc, Nat.reduceAdd]))
  have r1 := (h0.r1.alloc (.cells #[.slice none 0 0] 28)).set (.slice none 0 0)
  have r2 := boxed_of_heap (h0.r2.alloc (.cells #[.slice none 0 0] 28)) (Below.heap_setCell _ ⟨w.heap.size + 1, 0, none⟩ (.slice none 0 0) (w.heap.size + 2) (by simp))
  have k1 := (boxed_of_heap r1 (Below.heap_setCell _ ⟨w.heap.size + 2, 0, none⟩ (.bool true) (w.heap.size + 1) (by simp))).cell
  have k2 := (r2.set (.bool true)).cell
  refine ⟨.tuple #[.slice none 0 0, .bool true], by simp [results, Try.f8, go_sem, k1, k2], rfl, ?_⟩
  exact (((h0.b.alloc (by rw [h0.sz]; omega) _).setCell (p := ⟨w.heap.size + 1, 0, none⟩) (by simp) _).setCell (p := ⟨w.heap.size + 2, 0, none⟩) (by simp) _)

/-- A row of numbers of one's own. -/
def HasB (w : World) (B : Nat) (v : Value) (L : List Int) : Prop := w.ownsRow B 3 1 v L.length (L.map (Value.int .i64))

set_option maxRecDepth 100000 in
set_option maxHeartbeats 4000000 in
theorem btaken_some (B p : Nat) (g : Option Nat) (D : BatD) (most : Nat) (hm : 1 ≤ most) (hm2 : most ≤ 9223372036854775807) (w : World) (hf : IsBat w B p g D) :
    Calls Try.prog 8 #[.pointer (some ⟨p, 0, none⟩), .int .i64 (most : Int)] w fun e w' => ∃ v, e = .returned (.tuple #[v, .bool true]) ∧ HasB w' w.heap.size v ((readyB D).take most) ∧ IsBat w' B p g (takesB (min most (readyB D).length) D) ∧ Touch (onBat p g) w w' := by
  have heq : ∀ (fn : Fn) (first cap : Array Value) (w : World), (binOp .eql 44 (.func fn first cap) .nilFunc).run Try.prog w = .ok (.bool false) w := fun _ _ _ _ => by kernel_rfl
  obtain ⟨j0, ji, jz0, jz1, jz2⟩ := info_parts Try.info3
  have hok := hf.ok
  have hlen := readyB_len hok
  have hon : ∀ c, onBat p g c → c < w.heap.size := fun c hc => (hf.on hc).2
  have Hon := hide hon
  have hf' := hide hf
  clear hf hon
  refine (callsIn_wide (n := 9)).1 ?_
  refine callsIn_of_wp_marks Try.func8 rfl trivial ?_ rfl
  simp only [Try.ntmps8, List.size_toArray, List.length_cons, List.length_nil, Nat.reduceAdd, Nat.reduceSub, Array.replicate_succ, Array.replicate_zero, List.push_toArray, List.append_toArray, List.nil_append, List.cons_append]
  have h0 := inB0_made (most : Int) p w
  have hm0 : ¬ (most : Int) ≤ 0 := by omega
  gi_wp2_with (refine ⟨trivial, ?_⟩; gi_at_call 14; refine ((callsIn_wide (n := _)).2 (btake_calls _ _)).mono ?_; rintro en w' ⟨rfl, rfl⟩; obtain ⟨W4, hW4⟩ : ∃ W4, ((((w.alloc (.cells #[.int .i64 (most : Int)] 3)).alloc (.cells #[.slice none 0 0] 28)).alloc (.cells #[.bool false] 4)).alloc (.cells #[.pointer (some ⟨p, 0, none⟩)] 24)) = W4 := ⟨_, rfl⟩; rw [hW4] at h0; rw [hW4]; clear hW4; have cm := (h0.m.alloc (.cells #[.slice none 0 0] 28)).cell; (try simp only [World.size_alloc, Nat.add_assoc, Nat.reduceAdd]))
  have sz4 := h0.sz
  have y0 := h0.m.alloc (.cells #[.slice none 0 0] 28)
  have y1 := h0.r1.alloc (.cells #[.slice none 0 0] 28)
  have y2 := h0.r2.alloc (.cells #[.slice none 0 0] 28)
  have y3 := h0.x.alloc (.cells #[.slice none 0 0] 28)
  have y4 := Boxed.new W4 28 (.slice none 0 0)
  rw [sz4] at y4
  have hB5 := h0.b.alloc (by omega) (.cells #[.slice none 0 0] 28)
  rw [sz4]
  obtain ⟨W5, hW5⟩ : ∃ W5, W4.alloc (.cells #[.slice none 0 0] 28) = W5 := ⟨_, rfl⟩
  have sz5 : W5.heap.size = w.heap.size + 5 := by rw [← hW5]; simp [sz4]
  rw [hW5] at y0 y1 y2 y3 y4 hB5
  rw [hW5]
  clear hW5 h0 cm sz4
  have hst : StB B p g (w.heap.size + 3) D 0 W5 := ⟨hf'.out.new hB5, y3⟩
  have hS5 : ∀ c, onBat p g c → c < W5.heap.size := fun c hc => by have := Hon.out c hc; omega
  refine range_lawQ (by decide) (gf := 16) (lb := #[.pointer (some ⟨w.heap.size + 3, 0, none⟩)]) rfl (enters_of Try.func16 (by kernel_rfl) rfl)
    (btake_seq (w.heap.size + 3) B p g D W5 hst) hS5 kpB_t (kpB_b hS5 (by omega)) StB.own (fun v k A C row h _ _ => h)
    (fun k T W => ∃ (va : Value) (l : List Int), T = (fun c => c = w.heap.size + 4 ∨ va.ownBlock = some c) ∧ l = (readyB D).take k ∧ k < most ∧ k ≤ (readyB D).length ∧ InB w.heap.size most l W va ∧ Touch (onBat p g) w W ∧ w.heap.size + 5 ≤ W.heap.size)
    (fun c k W => c = .ret ∧ k = most ∧ k ≤ (readyB D).length ∧ ∃ (va : Value) (l : List Int), l = (readyB D).take k ∧ Boxed W (w.heap.size + 1) 28 va ∧ Boxed W (w.heap.size + 2) 4 (.bool true) ∧ W.ownsRow (w.heap.size + 5) 3 1 va l.length (l.map (Value.int .i64)) ∧ Touch (onBat p g) w W ∧ w.heap.size + 5 ≤ W.heap.size)
    ?hI ?hIT ?hIX ?hIx ?h0
    (fun v a' _ => a' = { tmps := #[.pointer (some ⟨p, 0, none⟩), .int .i64 (most : Int), undef, .pointer (some ⟨w.heap.size, 0, none⟩), .pointer (some ⟨w.heap.size + 1, 0, none⟩), .pointer (some ⟨w.heap.size + 2, 0, none⟩), .func (.func 16) #[] #[.pointer (some ⟨w.heap.size + 3, 0, none⟩)], .pointer (some ⟨w.heap.size + 4, 0, none⟩), v, .pointer (some ⟨p, 0, none⟩), .func (.func 16) #[] #[.pointer (some ⟨w.heap.size + 3, 0, none⟩)], .func (.func 16) #[] #[.pointer (some ⟨w.heap.size + 3, 0, none⟩)], .bool false, .int .i64 (most : Int), .bool false, .func (.func 16) #[] #[.pointer (some ⟨w.heap.size + 3, 0, none⟩)], v, undef, undef, undef, undef, undef, undef, undef, undef, undef, undef], defers := [] })
    (fun v a' _ A C row h _ _ => h) ?assign (fun A C hb h => kpB_n hb (fun c hc => by have := hS5 c hc; omega) (by omega)) (fun k v A C h hb => h) (fun k A C h hb => h.below hb) ?hIz ?body ?done ?stop
  case hI =>
    rintro T k A C row ⟨va, l, h1, h2, h3, h4, h5, h6, h7⟩ hg hr
    exact ⟨va, l, h1, h2, h3, h4, h5.own hg (fun r e => (hr r e).2), ownFrom_touch (β := Unit) (show w.heap.size ≤ W5.heap.size by omega) () A C row h6 hg hr, Nat.le_trans h7 hg.size⟩
  case hIT =>
    rintro k T W ⟨va, l, rfl, h2, h3, h4, h5, h6, h7⟩ c (rfl | hc)
    · omega
    · exact (h5.row.lt c hc).2
  case hIX =>
    rintro k T A C ⟨va, l, h1, h2, h3, h4, h5, h6, h7⟩ ht
    exact ⟨va, l, h1, h2, h3, h4, h5.keep (fun k hk hk2 => ht.block k hk2 (fun e => by have := Hon.out k e; omega)), h6.trans ht, Nat.le_trans h7 ht.size⟩
  case hIx =>
    rintro c k A C row ⟨h1, h2, h3, va, l, h4, h5, h6, h7, h9, h10⟩ hg hr
    exact ⟨h1, h2, h3, va, l, h4, boxed_own' hg (fun r e => (hr r e).2) h5, boxed_own' hg (fun r e => (hr r e).2) h6, ownsRow_own' hg (fun r e => (hr r e).2) h7, ownFrom_touch (β := Unit) (show w.heap.size ≤ W5.heap.size by omega) () A C row h9 hg hr, Nat.le_trans h10 hg.size⟩
  case h0 =>
    exact ⟨_, .slice none 0 0, [], rfl, rfl, by omega, Nat.zero_le _, ⟨y0, y1, y2, y4, World.ownsRow_nil _ _ _ _⟩, touch_new hB5, by omega⟩
  case hIz =>
    rintro k T W ⟨va, l, h1, h2, h3, h4, h5, h6, h7⟩
    omega
  case assign =>
    rintro l0 k T v X K - ⟨x, -, rfl⟩ hK
    replace hK := hide hK
    gi_wp2
    exact hK.out _ _ (Below.refl _ X) rfl
  case body =>
    rintro l0 k T v a' X hl1 ⟨rl, hrl⟩ ⟨va, l, rfl, hlm, hkm, hkl, hin, ht, hXs⟩ hst ⟨x, hrk, rfl⟩ rfl
    have hkl' : k < (readyB D).length := (List.getElem?_eq_some_iff.1 hrk).1
    have hll : l.length = k := by
      rw [hlm]
      simp
      omega
    have hma : l ++ [x] = (readyB D).take (k + 1) := by
      rw [hlm, List.take_succ_eq_append_getElem hkl']
      rw [(List.getElem?_eq_some_iff.1 hrk).2]
    obtain ⟨pa, ca, rfl⟩ := ownsRow_slice hin.row
    have ca0 := hin.a.cell
    have Hin := hide hin
    have Hst := hide hst
    have Hma := hide hma
    have Ht := hide ht
    rw [hll] at ca0
    clear hin hma hlm ht hst hrk hrl
    have hop := hide hll
    clear hll
    have hl64 : l.length ≤ 64 := by have := hop.out; omega
    by_cases hge : (most : Int) ≤ (k : Int) + 1
    · gi_wp2_with (gi_at_builtin; refine wpListIn_append_own_at _ rfl (.tmp 17) _ 28 rfl (w.heap.size + 5) 3 j0 (.int .i64 0) 1 8 Try.underlying28 ji jz0 jz1 jz2 rfl (by decide) _ _ _ (by rw [← hop.out]; rfl) (World.ownsRow.alloc Hin.out.row _) ⟨_, 0, none⟩ 1 1 [.int .i64 x] rfl rfl (cell_one_at (by simp)) (by intro u hu; simp at hu; subst hu; rfl) (by unfold maxLen; omega) (by omega) (by simp; omega) ?_; intro v1 w1 hown1 hgrow1 _ hat1; obtain ⟨g1, cap1, rfl⟩ := ownsRow_succ hown1; obtain ⟨⟨bx1, bm1, br1, br2⟩, hin1, k1, o1, l1⟩ := Hin.out.app (x := x) hown1 hgrow1; have d1 := bx1.cell; have f1 := bx1.frozen; have d2 := bm1.cell; have d3 := br1.cell; have f3 := br1.frozen; have d4 := br2.cell; have f4 := br2.frozen; have Hin1 := hide hin1; have Hk1 := hide k1; have Ho1 := hide o1; have Hl1 := hide l1; have Hat1 := hide hat1; rw [hop.out]; clear hgrow1 hat1 hown1 hin1 l1 o1 k1)
      have hop2 := hop.out
      subst hop2
      obtain ⟨n1, n2, n3, n5, n6⟩ := Hin1.out.end
      have hkp1 : KpB p g (w.heap.size + 3) X (w1.setCell ⟨w.heap.size + 4, 0, none⟩ (.slice (some ⟨g1, 0, none⟩) (l.length + 1) cap1)) := fun c hc => Ho1.out c (by rcases hc with hc | rfl; have := Hon.out c hc; omega; omega) (by rcases hc with hc | rfl; have := Hon.out c hc; omega; omega) (fun e => by have h1 := (Hin.out.row.lt c e).1; rcases hc with hc | rfl; have := Hon.out c hc; omega; omega)
      have hw2 : KpB p g (w.heap.size + 3) X ((w1.setCell ⟨w.heap.size + 4, 0, none⟩ (.slice (some ⟨g1, 0, none⟩) (l.length + 1) cap1)).setCell ⟨w.heap.size + 1, 0, none⟩ (.slice (some ⟨g1, 0, none⟩) (l.length + 1) cap1) |>.setCell ⟨w.heap.size + 2, 0, none⟩ (.bool true)) :=
        kpB_t hkp1 fun c hc => n6 c (by rcases hc with hc | rfl; have := Hon.out c hc; omega; omega) (by rcases hc with hc | rfl; have := Hon.out c hc; omega; omega)
      have hlow := ((Hl1.out w.heap.size X (by omega) (Below.refl _ X)).setCell (p := ⟨w.heap.size + 1, 0, none⟩) (by simp) (.slice (some ⟨g1, 0, none⟩) (l.length + 1) cap1)).setCell (p := ⟨w.heap.size + 2, 0, none⟩) (by simp) (.bool true)
      have n3' := n3
      rw [show (l ++ [x]).length = l.length + 1 by simp] at n3'
      exact ⟨(Hk1.out.trans n5).from _, hw2, rfl, by omega, by omega, _, l ++ [x], Hma.out, n1, n2, n3, Ht.out.upper (touch_of_below (S := fun c => w.heap.size ≤ c) hlow fun _ _ h => h) fun _ h => h, by have := hlow.size; omega⟩
    · gi_wp2_with (gi_at_builtin; refine wpListIn_append_own_at _ rfl (.tmp 17) _ 28 rfl (w.heap.size + 5) 3 j0 (.int .i64 0) 1 8 Try.underlying28 ji jz0 jz1 jz2 rfl (by decide) _ _ _ (by rw [← hop.out]; rfl) (World.ownsRow.alloc Hin.out.row _) ⟨_, 0, none⟩ 1 1 [.int .i64 x] rfl rfl (cell_one_at (by simp)) (by intro u hu; simp at hu; subst hu; rfl) (by unfold maxLen; omega) (by omega) (by simp; omega) ?_; intro v1 w1 hown1 hgrow1 _ hat1; obtain ⟨g1, cap1, rfl⟩ := ownsRow_succ hown1; obtain ⟨⟨bx1, bm1, br1, br2⟩, hin1, k1, o1, l1⟩ := Hin.out.app (x := x) hown1 hgrow1; have d1 := bx1.cell; have f1 := bx1.frozen; have d2 := bm1.cell; have d3 := br1.cell; have f3 := br1.frozen; have d4 := br2.cell; have f4 := br2.frozen; have Hin1 := hide hin1; have Hk1 := hide k1; have Ho1 := hide o1; have Hl1 := hide l1; have Hat1 := hide hat1; rw [hop.out]; clear hgrow1 hat1 hown1 hin1 l1 o1 k1)
      have hop2 := hop.out
      subst hop2
      have hlow := Hl1.out w.heap.size X (by omega) (Below.refl _ X)
      have hkp1 : KpB p g (w.heap.size + 3) X (w1.setCell ⟨w.heap.size + 4, 0, none⟩ (.slice (some ⟨g1, 0, none⟩) (l.length + 1) cap1)) := fun c hc => Ho1.out c (by rcases hc with hc | rfl; have := Hon.out c hc; omega; omega) (by rcases hc with hc | rfl; have := Hon.out c hc; omega; omega) (fun e => by have h1 := (Hin.out.row.lt c e).1; rcases hc with hc | rfl; have := Hon.out c hc; omega; omega)
      rw [← sz5]
      have hin1 := Hin1.out
      rw [Hma.out] at hin1
      refine ⟨⟨_, ⟨_, rfl, by omega, by omega, hin1, Ht.out.upper (touch_of_below (S := fun c => w.heap.size ≤ c) hlow fun _ _ h => h) fun _ h => h, by have := hlow.size; omega⟩, ⟨Hk1.out.from _, fun c h1 h2 h3 => Ho1.out c h2 (fun e => h3 (.inl e)) (fun e => h3 (.inr e)), fun c h1 h2 => ?_⟩⟩, hkp1⟩
      rcases h2 with h2 | h2
      · exact .inl h2
      · rcases Hat1.out with h3 | h3
        · exact .inr (h3.symm.trans h2)
        · rw [h3] at h2
          simp at h2
          omega
  case done =>
    rintro D2 k T X hD rfl ⟨va, l, rfl, hlm, hkm, hkl, hin, ht, hXs⟩ hst2 hK
    obtain ⟨pa, ca, rfl⟩ := ownsRow_slice hin.row
    have c4 := hin.a.cell
    have c1 := hin.r1.cell
    have f1 := hin.r1.frozen
    have c2 := hin.r2.cell
    have f2 := hin.r2.frozen
    have Hin := hide hin
    have Ht := hide ht
    have Hlm := hide hlm
    have Hst := hide hst2
    have HK := hide hK
    clear hin ht hlm hst2 hK
    gi_wp2
    obtain ⟨n1, n2, n3, n5, n6⟩ := Hin.out.end
    have hl4 := Hin.out.a.lt
    have hK2 := n5.same D2 _ HK.out rfl
    have hst2 : StB B p g (w.heap.size + 3) D (readyB D).length ((X.setCell ⟨w.heap.size + 1, 0, none⟩ (.slice pa l.length ca)).setCell ⟨w.heap.size + 2, 0, none⟩ (.bool true)) :=
      Hst.out.kp fun c hc => n6 c (by rcases hc with hc | rfl; have := Hon.out c hc; omega; omega) (by rcases hc with hc | rfl; have := Hon.out c hc; omega; omega)
    have ht2 : Touch (onBat p g) w ((X.setCell ⟨w.heap.size + 1, 0, none⟩ (.slice pa l.length ca)).setCell ⟨w.heap.size + 2, 0, none⟩ (.bool true)) :=
      Ht.out.upper (touch_of_below (S := fun c => w.heap.size ≤ c) (((Below.refl w.heap.size X).setCell (p := ⟨w.heap.size + 1, 0, none⟩) (by simp) _).setCell (p := ⟨w.heap.size + 2, 0, none⟩) (by simp) _) fun _ _ h => h) fun _ h => h
    have hrecs := Hlm.out
    obtain ⟨W2, hW2⟩ : ∃ W2, (X.setCell ⟨w.heap.size + 1, 0, none⟩ (.slice pa l.length ca)).setCell ⟨w.heap.size + 2, 0, none⟩ (.bool true) = W2 := ⟨_, rfl⟩
    rw [hW2] at n1 n2 n3 hK2 hst2 ht2
    rw [hW2]
    clear hW2 n5 n6
    have hg := grownBy_putObj' W2 D2 (.deferred none)
    have hr : ∀ r, some D2 = some r → ∃ o : Obj, W2.heap[r]? = some o ∧ o.isCells = false := fun r e => by cases e; exact ⟨_, hK2, rfl⟩
    have Q1 := (boxed_own' hg hr n1).cell
    have Q2 := (boxed_own' hg hr n2).cell
    refine ⟨by simp, .inl ⟨_, _, rfl, run_takeDeferred hK2, ?_⟩⟩
    refine ⟨.tuple #[.slice pa l.length ca, .bool true], by simp [results, Try.f8, go_sem, Q1, Q2], _, rfl, ?_, ?_, (ownFrom_touch (β := Unit) (show w.heap.size ≤ W5.heap.size by omega)).putObj (s := ()) _ ht2 (by omega) hK2 rfl⟩
    · rw [show (readyB D).take most = l by rw [hrecs, List.take_length, List.take_of_length_le (by omega)]]
      exact ownsRow_low (ownsRow_own' hg hr n3) (by omega)
    · rw [show min most (readyB D).length = (readyB D).length by omega]
      exact ((StB.own (n := W5.heap.size)).putObj (s := (readyB D).length) _ hst2 (by omega) hK2 rfl).1
  case stop =>
    rintro D2 c k X hD ⟨rfl, hkm, hkl, va, l, hlm, h1, h2, h3, h5, h6⟩ hst2 hK
    obtain ⟨pa, ca, rfl⟩ := ownsRow_slice h3
    have hg := grownBy_putObj' X D2 (.deferred none)
    have hr : ∀ r, some D2 = some r → ∃ o : Obj, X.heap[r]? = some o ∧ o.isCells = false := fun r e => by cases e; exact ⟨_, hK, rfl⟩
    have Q1 := (boxed_own' hg hr h1).cell
    have Q2 := (boxed_own' hg hr h2).cell
    subst hkm
    gi_wp2
    refine ⟨by simp, .inl ⟨_, _, rfl, run_takeDeferred hK, ?_⟩⟩
    refine ⟨.tuple #[.slice pa l.length ca, .bool true], by simp [results, Try.f8, go_sem, Q1, Q2], _, rfl, ?_, ?_, (ownFrom_touch (β := Unit) (show w.heap.size ≤ W5.heap.size by omega)).putObj (s := ()) _ h5 (by omega) hK rfl⟩
    · rw [← hlm]
      exact ownsRow_low (ownsRow_own' hg hr h3) (by omega)
    · rw [show min k (readyB D).length = k by omega]
      exact ((StB.own (n := W5.heap.size)).putObj (s := k) _ hst2 (by omega) hK rfl).1

end Go.Proofs.Ytpkjkhpnhcbciaa
