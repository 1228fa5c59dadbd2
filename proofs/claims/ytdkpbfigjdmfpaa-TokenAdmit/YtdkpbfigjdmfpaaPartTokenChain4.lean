/- Own work: the parts TK3, SetL, TK4 of the proof, laid together. -/
import Derived.Test.YtdkpbfigjdmfpaaPartTokenChain3
import Derived.Laws.AppendOwnNone
import Derived.Lib.AppendZeros
import Derived.Deep.LoopGhost
import Derived.Laws.IdiomCopy
import Derived.Deep.RegionLaw
/- token's copied; slices.Grow, Concat at drafts. Own work; no statement. -/
set_option linter.unusedSimpArgs false
set_option linter.unusedVariables false
namespace Go.Proofs.Ytdkpbfigjdmfpaa
open Go.RowKit Go.Shelf

/-- A draft by value, with its numbers in memory of its own from block B on. -/
def OwnDr (B : Nat) (w : World) (v : Value) (d : DrD) : Prop :=
  ∃ vd, v = .agg #[.int .i64 d.ticket, .int .i64 d.r.site, .int .i64 d.r.seq, vd, .string d.r.key, .string d.r.val] ∧ w.ownsRow B 3 1 vd d.r.dep.length (d.r.dep.map (Value.int .i64))
theorem OwnDr.isDr {B : Nat} {w : World} {v : Value} {d : DrD} (h : OwnDr B w v d) : IsDr w v d := by
  obtain ⟨vd, rfl, ho⟩ := h
  obtain ⟨a, cap, rfl⟩ := ownsRow_slice ho
  exact ⟨a, cap, rfl, IsNums.of_row ho⟩
theorem OwnDr.low {B B' : Nat} {w : World} {v : Value} {d : DrD} (h : OwnDr B w v d) (hb : B' ≤ B) : OwnDr B' w v d := by
  obtain ⟨vd, e, ho⟩ := h
  exact ⟨vd, e, ownsRow_low ho hb⟩

set_option maxHeartbeats 2000000 in
set_option maxRecDepth 100000 in
theorem tokCopied_calls (v : Value) (d : DrD) (w : World) (hv : IsDr w v d) (hl : d.r.dep.length ≤ 17592186044416) :
    Calls Try.prog 46 #[v] w fun e w' => ∃ v', e = .returned v' ∧ OwnDr w.heap.size w' v' d ∧ RowKit.Below w.heap.size w w' := by
  obtain ⟨ticket, ⟨site, seq, dep, key, val⟩⟩ := d
  obtain ⟨a, cap, rfl, hn⟩ := hv
  dsimp only at *
  obtain ⟨W0, hW0⟩ : ∃ W0, (w.alloc (.cells #[.int .i64 ticket, .int .i64 site, .int .i64 seq, .slice a dep.length cap, .string key, .string val] 41)).alloc (.cells #[.int .i64 0, .int .i64 0, .int .i64 0, .slice none 0 0, .string ⟨#[]⟩, .string ⟨#[]⟩] 41) = W0 := ⟨_, rfl⟩
  have HB : RowKit.Below w.heap.size w W0 := by rw [← hW0]; exact (box_below w _).alloc (by simp) _
  have hsz : W0.heap.size = w.heap.size + 2 := by rw [← hW0]; simp
  have h0 : W0.heap[w.heap.size]? = some (.cells #[.int .i64 ticket, .int .i64 site, .int .i64 seq, .slice a dep.length cap, .string key, .string val] 41 (0, 0)) := by
    rw [← hW0]; exact (Below.heap_alloc _ _ _ (by simp)).trans (World.alloc_heap_new w _)
  have h1 : W0.heap[w.heap.size + 1]? = some (.cells #[.int .i64 0, .int .i64 0, .int .i64 0, .slice none 0 0, .string ⟨#[]⟩, .string ⟨#[]⟩] 41 (0, 0)) := by
    have := World.alloc_heap_new (w.alloc (.cells #[.int .i64 ticket, .int .i64 site, .int .i64 seq, .slice a dep.length cap, .string key, .string val] 41)) (.cells #[.int .i64 0, .int .i64 0, .int .i64 0, .slice none 0 0, .string ⟨#[]⟩, .string ⟨#[]⟩] 41)
    rw [hW0, World.size_alloc] at this
    exact this
  have C := hide (cloneVec_calls _ dep W0 (hn.below HB) hl)
  have HW := hide hW0
  clear hW0 hn
  go_enter Try.func46, Try.ntmps46
  go_wp2_with fail
  rw [HW.out]
  refine C.out.mono ?_
  rintro e w1 ⟨v', rfl, hown, hB1⟩
  obtain ⟨a', cap', rfl⟩ := ownsRow_slice hown
  have e0 := (hB1.block w.heap.size (by omega)).trans h0
  have e1 := (hB1.block (w.heap.size + 1) (by omega)).trans h1
  have hB := HB.trans (hB1.mono HB.size)
  have hs1 := hB1.size
  have Hown := hide hown
  clear C HW h0 h1 HB hB1 hown
  obtain ⟨c0, c1, c2, c3, c4, c5, -, -, -, f3, -, -⟩ := cells6T e0
  obtain ⟨d0, d1, d2, d3, d4, d5, g0, g1, g2, g3, g4, g5⟩ := cells6T e1
  have E0 := hide e0
  have E1 := hide e1
  clear e0 e1
  go_wp2
  obtain ⟨W2, hW2⟩ : ∃ W2, put6T (w1.setCell ⟨w.heap.size, 3, none⟩ (.slice a' dep.length cap')) (w.heap.size + 1) (.int .i64 ticket) (.int .i64 site) (.int .i64 seq) (.slice a' dep.length cap') (.string key) (.string val) = W2 := ⟨_, rfl⟩
  have e2 := put6T_heap ((Below.heap_setCell w1 ⟨w.heap.size, 3, none⟩ (.slice a' dep.length cap') (w.heap.size + 1) (by simp)).trans E1.out) (.int .i64 ticket) (.int .i64 site) (.int .i64 seq) (.slice a' dep.length cap') (.string key) (.string val)
  have hB2 := put6T_below (hB.setCell (p := ⟨w.heap.size, 3, none⟩) (Nat.le_refl _) (.slice a' dep.length cap')) (show w.heap.size ≤ w.heap.size + 1 by omega) (.int .i64 ticket) (.int .i64 site) (.int .i64 seq) (.slice a' dep.length cap') (.string key) (.string val)
  have hoth : ∀ k, W0.heap.size ≤ k → W2.heap[k]? = w1.heap[k]? := fun k hk => by rw [← hW2, put6T_other k (by omega)]; exact Below.heap_setCell _ ⟨w.heap.size, 3, none⟩ _ k (by simp; omega)
  rw [hW2] at e2 hB2
  unfold put6T at hW2
  rw [hW2]
  clear hW2 c0 c1 c2 c3 c4 c5 d0 d1 d2 d3 d4 d5 f3 g0 g1 g2 g3 g4 g5
  obtain ⟨k0, k1, k2, k3, k4, k5, -⟩ := cells6T e2
  refine bodyPost_ret (v := .agg #[.int .i64 ticket, .int .i64 site, .int .i64 seq, .slice a' dep.length cap', .string key, .string val]) (by simp [results, Try.f46, go_sem, k0, k1, k2, k3, k4, k5]) rfl ⟨_, rfl, ⟨_, rfl, ?_⟩, hB2⟩
  exact ownsRow_low (ownsRow_of_heap Hown.out fun k hk => hoth k (Hown.out.lt k hk).1) (by omega)

/-! ### slices.Grow, Concat -/

theorem pick_lt {α : Type} [Inhabited α] {n : Nat} {p : Nat → α → Prop} (h : ∀ t, t < n → ∃ x, p t x) : ∃ f : Nat → α, ∀ t, t < n → p t (f t) := by
  refine ⟨fun t => if ht : t < n then Classical.choose (h t ht) else default, fun t ht => ?_⟩
  dsimp only
  rw [dif_pos ht]
  exact Classical.choose_spec (h t ht)
/-- What a slice of drafts reads as, with each one's slice of numbers. -/
def RdD (w : World) (v : Value) (l : List Dv) : Prop :=
  ∃ a cap, v = .slice a l.length cap ∧ l.length ≤ cap ∧ (a = none → cap = 0) ∧ ∀ t (h : t < l.length), ∃ b o, a = some ⟨b, o, none⟩ ∧ ∀ j, j < 6 → w.cell? ⟨b, o + t * 6 + j, none⟩ = l[t].cells[j]?
theorem RdD.below {w w' : World} {v : Value} {l : List Dv} (h : RdD w v l) (hb : RowKit.Below w.heap.size w w') : RdD w' v l := by
  obtain ⟨a, cap, rfl, hc, h0, h⟩ := h
  refine ⟨a, cap, rfl, hc, h0, fun t ht => ?_⟩
  obtain ⟨b, o, e, hr⟩ := h t ht
  refine ⟨b, o, e, fun j hj => ?_⟩
  have h1 := hr j hj
  have hlt : b < w.heap.size := by
    have := hr 0 (by omega)
    exact World.block_lt_of_cell? w _ (this.trans (by simp [Dv.cells]; rfl))
  exact (hb.cell (p := ⟨b, o + t * 6 + j, none⟩) hlt).trans h1
/-- Each slice of drafts reads so. -/
theorem IsDrs.rd {w : World} {v : Value} {l : List DrD} (h : IsDrs w v l) : ∃ ql : List Dv, ql.map (·.d) = l ∧ RdD w v ql ∧ ∀ q ∈ ql, IsNums .i64 w q.vd q.d.r.dep := by
  obtain ⟨a, cap, rfl, hc, h0, h⟩ := h
  have each : ∀ t, t < l.length → ∃ q : Dv, (∀ ht : t < l.length, q.d = l[t]) ∧ (∃ b o, a = some ⟨b, o, none⟩ ∧ ∀ j, j < 6 → w.cell? ⟨b, o + t * 6 + j, none⟩ = q.cells[j]?) ∧ IsNums .i64 w q.vd q.d.r.dep := by
    intro t ht
    obtain ⟨b, o, e, da, dc, c0, c1, c2, c3, c4, c5, hn⟩ := h t ht
    refine ⟨⟨l[t], .slice da l[t].r.dep.length dc⟩, fun _ => rfl, ⟨b, o, e, fun j hj => ?_⟩, hn⟩
    match j, hj with
    | 0, _ => simpa [Dv.cells] using c0
    | 1, _ => simpa [Dv.cells] using c1
    | 2, _ => simpa [Dv.cells] using c2
    | 3, _ => simpa [Dv.cells] using c3
    | 4, _ => simpa [Dv.cells] using c4
    | 5, _ => simpa [Dv.cells] using c5
  have : Inhabited Dv := ⟨⟨⟨0, zeroR⟩, .bool false⟩⟩
  obtain ⟨q, hq⟩ := pick_lt each
  have hlen : ((List.range l.length).map q).length = l.length := by simp
  refine ⟨(List.range l.length).map q, ?_, ⟨a, cap, by rw [hlen], by rw [hlen]; exact hc, h0, fun t ht => ?_⟩, fun x hx => ?_⟩
  · apply List.ext_getElem
    · simp
    · intro t h1 h2
      simp only [List.getElem_map, List.getElem_range]
      exact (hq t h2).1 h2
  · rw [hlen] at ht
    rw [List.getElem_map, List.getElem_range]
    exact (hq t ht).2.1
  · obtain ⟨t, ht, rfl⟩ := List.mem_map.1 hx
    exact (hq t (List.mem_range.1 ht)).2.2
theorem RdD.drs {w : World} {v : Value} {l : List Dv} (h : RdD w v l) (hn : ∀ q ∈ l, IsNums .i64 w q.vd q.d.r.dep) : IsDrs w v (l.map (·.d)) := by
  obtain ⟨a, cap, rfl, hc, h0, h⟩ := h
  refine ⟨a, cap, by rw [List.length_map], by rw [List.length_map]; exact hc, h0, fun t ht => ?_⟩
  rw [List.length_map] at ht
  obtain ⟨b, o, e, hr⟩ := h t ht
  rw [List.getElem_map]
  exact ⟨b, o, e, drAt_of hr (hn _ (List.getElem_mem ht))⟩
theorem RdD.src {w : World} {v : Value} {l : List Dv} (h : RdD w v l) : (v = .slice none 0 0 ∧ l = []) ∨ ∃ ad c, v = .slice (some ad) l.length c ∧ ∀ j u, (l.flatMap Dv.cells)[j]? = some u → w.cell? (ad.add j) = some u := by
  obtain ⟨a, cap, rfl, hc, h0, h⟩ := h
  cases a with
  | none =>
    obtain rfl := h0 rfl
    have : l = [] := List.eq_nil_of_length_eq_zero (by omega)
    subst this
    exact .inl ⟨rfl, rfl⟩
  | some ad =>
    refine .inr ⟨ad, cap, rfl, fun j u hj => ?_⟩
    have hjl : j < l.length * 6 := by rw [← flat6_length]; exact (List.getElem?_eq_some_iff.1 hj).1
    obtain ⟨b, o, e, hr⟩ := h (j / 6) (by omega)
    cases e
    have h1 := hr (j % 6) (by omega)
    have h2 := flat6 l (j / 6) (j % 6) (by omega) (by omega)
    rw [show j / 6 * 6 + j % 6 = j by omega, hj] at h2
    rw [Addr.add_lit, show o + j = o + j / 6 * 6 + j % 6 by omega, h1, ← h2]

theorem wpList_append_srcT {P : Program} {w : World} {ops : Array Oper} {rest : List Oper} {o : Oper} {a : Act} {Q : Exit → Act → World → Prop} (hgd : o.guard = none) (s x : Operand) (t : TypeId)
    (ho : o.op = .call { callee := .builtin .append, args := #[s, x], argTypes := #[t, t] })
    (base : Nat) (e : TypeId) (i : TypeInfo) (z : Value) (bytes : Nat) (ht : P.underlying t = some (.slice e)) (hi : P.info? e = some i) (hz : i.zero = some z)
    (hsize : i.size = 6) (hby : i.bytes = bytes) (hzs : z.cells.size = 6)
    (v : Value) (n : Nat) (xs : List Value) (hs : a.eval s = v) (hown : w.ownsRow base e 6 v n xs)
    (vx : Value) (l : List Dv) (hx : a.eval x = vx) (hsrc : RdD w vx l) (h1 : ∀ q ∈ l, ∃ a n c, q.vd = .slice a n c)
    (h63 : n + l.length ≤ maxLen) (hbytes : (n + l.length) * bytes ≤ 140737488355328) (hbase : base ≤ w.heap.size)
    (h : ∀ v' w', w'.ownsRow base e 6 v' (n + l.length) (xs ++ l.flatMap Dv.cells) → w.grownBy w' v.ownBlock → wpList P ops Q rest (a.put o.dst v') w') : wpList P ops Q (o :: rest) a w := by
  rcases hsrc.src with ⟨rfl, rfl⟩ | ⟨ad, c, rfl, hc⟩
  · refine wpList_append_own_none hgd s x t ho base e i 6 ht hi v n xs hs hown hx (h v w (by simpa using hown) (World.grownBy.refl _ _))
  · exact wpList_append_own w hgd s x t ho base e i z 6 bytes ht hi hz hsize hby hzs (by decide) v n xs hs hown ad l.length c (l.flatMap Dv.cells) hx (flat6_length l) hc (fun u hu => by
      obtain ⟨q, hq, hu⟩ := List.mem_flatMap.1 hu
      obtain ⟨a, n, c, e⟩ := h1 q hq
      exact one6 e u hu) h63 hbytes hbase fun v' w' h2 h3 _ => h v' w' h2 h3

set_option maxHeartbeats 1000000 in
theorem drGrow_none (w : World) : Calls Try.prog 45 #[.slice none 0 0, .int .i64 0] w fun e w' => e = .returned (.slice none 0 0) ∧ w' = w := by
  go_enter Try.func45, Try.ntmps45
  go_wp2_with fail
  go_ret
  exact ⟨rfl, rfl⟩
set_option maxHeartbeats 1000000 in
theorem drGrow_some (n : Nat) (h0 : 0 < n) (hn : n ≤ 1099511627776) (w : World) :
    Calls Try.prog 45 #[.slice none 0 0, .int .i64 (n : Int)] w fun e w' => ∃ v', e = .returned v' ∧ w'.ownsRow w.heap.size 41 6 v' 0 [] ∧ RowKit.Below w.heap.size w w' := by
  obtain ⟨i0, hi0, hz0, hz1, hz2⟩ := info_parts Try.info41
  have hrz : ∀ ty, (Builtin.append_ #[24, 3] ty #[.slice none 0 0, .int .i64 (n : Int)]).run Try.prog w = _ := fun ty =>
    Lib.run_append_nil_zeros w 24 3 ty 41 i0 _ .i64 .i64 Try.underlying24 Try.underlying3 hi0 hz0 n h0 (by omega) (by omega) (by rw [hz2]; omega)
  obtain ⟨G, hG⟩ : ∃ G, G = grownCap w n 0 41 := ⟨_, rfl⟩
  rw [← hG] at hrz
  have hGn : n ≤ G := by rw [hG]; exact grownCap_ge w _ _ _
  have hGm : G ≤ maxLen := by rw [hG]; exact grownCap_le_maxLen w n 0 41 (by unfold maxLen; omega)
  have hG63 : G ≤ 9223372036854775807 := by unfold maxLen at hGm; omega
  obtain ⟨ROW, hROW⟩ : ∃ ROW : Array Value, ROW = Builtin.zeroCells (Value.agg #[.int .i64 0, .int .i64 0, .int .i64 0, .slice none 0 0, .string ⟨#[]⟩, .string ⟨#[]⟩]).cells n ++ Builtin.zeroCells (Value.agg #[.int .i64 0, .int .i64 0, .int .i64 0, .slice none 0 0, .string ⟨#[]⟩, .string ⟨#[]⟩]).cells (G - n) := ⟨_, rfl⟩
  rw [← hROW] at hrz
  have hRl : ROW.size = G * 6 := by
    rw [hROW]
    simp [Builtin.zeroCells, Value.cells]
    omega
  obtain ⟨W1, hW1⟩ : ∃ W1, W1 = w.drew.alloc (.cells ROW 41) := ⟨_, rfl⟩
  rw [← hW1] at hrz
  have hb1 : W1.heap[w.heap.size]? = some (.cells ROW 41 (0, 0)) := by rw [hW1]; exact World.alloc_heap_new w.drew _
  have hB1 : RowKit.Below w.heap.size w W1 := by rw [hW1]; exact ((RowKit.Below.refl _ w).drew).alloc (Nat.le_refl _) _
  have hGnI : ¬ (n : Int) < 0 := by omega
  have h0I : (n : Int) > 0 := by omega
  clear hG hROW hW1
  go_enter Try.func45, Try.ntmps45
  go_wp2_with (at_builtin; refine Lib.wpList_append_run _ rfl _ _ 24 3 rfl _ _ rfl rfl _ _ (hrz _) ?_)
  go_ret
  exact ⟨_, rfl, ⟨rfl, .inr ⟨w.heap.size, G, ROW, rfl, Nat.le_refl _, hb1, Nat.zero_le _, hGm, hRl, by simp⟩⟩, hB1⟩

set_option maxHeartbeats 1000000 in
theorem drGrow_calls (n : Nat) (hn : n ≤ 1099511627776) (w : World) :
    Calls Try.prog 45 #[.slice none 0 0, .int .i64 (n : Int)] w fun e w' => ∃ v', e = .returned v' ∧ w'.ownsRow w.heap.size 41 6 v' 0 [] ∧ RowKit.Below w.heap.size w w' := by
  rcases Nat.eq_zero_or_pos n with rfl | h0
  · refine (drGrow_none w).mono ?_
    rintro e w' ⟨rfl, rfl⟩
    exact ⟨_, rfl, World.ownsRow_nil _ _ _ _, RowKit.Below.refl _ _⟩
  · exact drGrow_some n h0 hn w

set_option maxHeartbeats 2000000 in
set_option maxRecDepth 100000 in
theorem drConcat_calls (va vb : Value) (x y : List Dv) (b : Nat) (w : World) (ha : RdD w va x) (hb : RdD w vb y) (h1 : ∀ q ∈ x, ∃ a n c, q.vd = .slice a n c) (h2 : ∀ q ∈ y, ∃ a n c, q.vd = .slice a n c) (hl : x.length + y.length ≤ 1099511627776) (hc0 : w.cell? ⟨b, 0, none⟩ = some va) (hc1 : w.cell? ⟨b, 1, none⟩ = some vb) :
    Calls Try.prog 34 #[.slice (some ⟨b, 0, none⟩) 2 2] w fun e w' => ∃ v', e = .returned v' ∧ w'.ownsRow w.heap.size 41 6 v' (x ++ y).length ((x ++ y).flatMap Dv.cells) ∧ RowKit.Below w.heap.size w w' := by
  obtain ⟨i0, hi0, hz0, hz1, hz2⟩ := info_parts Try.info41
  have Ha := hide ha
  have Hb := hide hb
  obtain ⟨aa, ca, rfl, -⟩ := ha
  obtain ⟨ab, cb, rfl, -⟩ := hb
  have hbw : b < w.heap.size := World.block_lt_of_cell? w _ hc0
  have hs1 : ¬ ((x.length : Int) < 0) := by omega
  have hs2 : ¬ ((x.length : Int) + (y.length : Int) < 0) := by omega
  have G := hide (drGrow_calls (x.length + y.length) hl w)
  rw [show ((x.length + y.length : Nat) : Int) = (x.length : Int) + (y.length : Int) by omega] at G
  have H1 := hide h1
  have H2 := hide h2
  clear h1 h2
  go_enter Try.func34, Try.ntmps34
  go_wp2
  refine wp_loop_rounds 3 ?_
  rw [rounds_succ]
  go_wp2
  rw [rounds_succ]
  go_wp2
  rw [rounds_succ]
  go_wp2_with (go_at_call 45; refine G.out.mono ?_; rintro e w1 ⟨v1, rfl, hown1, hB1⟩)
  have d0 : w1.cell? ⟨b, 0, none⟩ = _ := (hB1.cell (p := ⟨b, 0, none⟩) hbw).trans hc0
  have d1 : w1.cell? ⟨b, 1, none⟩ = _ := (hB1.cell (p := ⟨b, 1, none⟩) hbw).trans hc1
  have hbs1 := hB1.size
  have Sa := hide (Ha.out.below hB1)
  clear hc0 hc1 G
  refine wp_loop_rounds 3 ?_
  rw [rounds_succ]
  go_wp2_with (at_builtin; refine wpList_append_srcT rfl _ _ 24 rfl w.heap.size 41 i0 _ 80 Try.underlying24 hi0 hz0 hz1 hz2 rfl _ _ _ rfl hown1 _ x rfl Sa.out H1.out (by unfold maxLen; simp; omega) (by simp; omega) hbs1 ?_; intro v2 w2 hown2 hgrow2; clear Sa)
  have hB2 : RowKit.Below w.heap.size w w2 := hB1.grown hgrow2 hB1.size (fun k hk => (hown1.lt k hk).1)
  have hbs2 := hB2.size
  have e0 : w2.cell? ⟨b, 0, none⟩ = _ := (hB2.cell (p := ⟨b, 0, none⟩) hbw).trans ((hB1.cell (p := ⟨b, 0, none⟩) hbw).symm.trans d0)
  have e1 : w2.cell? ⟨b, 1, none⟩ = _ := (hB2.cell (p := ⟨b, 1, none⟩) hbw).trans ((hB1.cell (p := ⟨b, 1, none⟩) hbw).symm.trans d1)
  have Sb := hide (Hb.out.below hB2)
  rw [Nat.zero_add, List.nil_append] at hown2
  clear d0 d1 hown1 hgrow2
  rw [rounds_succ]
  go_wp2_with (at_builtin; refine wpList_append_srcT rfl _ _ 24 rfl w.heap.size 41 i0 _ 80 Try.underlying24 hi0 hz0 hz1 hz2 rfl _ _ _ rfl hown2 _ y rfl Sb.out H2.out (by unfold maxLen; omega) (by omega) hbs2 ?_; intro v3 w3 hown3 hgrow3; clear Sb)
  have hB3 : RowKit.Below w.heap.size w w3 := hB2.grown hgrow3 hB2.size (fun k hk => (hown2.lt k hk).1)
  clear hgrow3
  rw [rounds_succ]
  go_wp2
  go_ret
  exact ⟨_, rfl, by rw [List.length_append, List.flatMap_append]; exact hown3, hB3⟩

end Go.Proofs.Ytdkpbfigjdmfpaa

/- Cells laid over others, from a place on. Own work; no statement. -/
set_option linter.unusedSimpArgs false
set_option linter.unusedVariables false
namespace Go.Proofs.Ytdkpbfigjdmfpaa
open Go.RowKit Go.Shelf Go.Sort

/-- Cells with others laid over them from a place on. -/
def setL (c : Array Value) : Nat → List Value → Array Value
  | _, [] => c
  | o, v :: r => setL (c.setIfInBounds o v) (o + 1) r

theorem setL_size : ∀ (vs : List Value) (o : Nat) (c : Array Value), (setL c o vs).size = c.size
  | [], _, _ => rfl
  | v :: r, o, c => by rw [setL, setL_size r]; simp
theorem setL_get : ∀ (vs : List Value) (o : Nat) (c : Array Value) (k : Nat), k < c.size → (setL c o vs)[k]? = if o ≤ k ∧ k < o + vs.length then vs[k - o]? else c[k]?
  | [], o, c, k, _ => by simp [setL]; intro; omega
  | v :: r, o, c, k, hk => by
    rw [setL, setL_get r (o + 1) _ k (by simpa using hk)]
    by_cases h : o = k
    · subst h
      rw [if_neg (by omega), if_pos (by simp)]
      simp [hk]
    · by_cases h2 : o ≤ k ∧ k < o + (v :: r).length
      · rw [if_pos h2, if_pos (by simp at h2; omega)]
        obtain ⟨j, rfl⟩ : ∃ j, k = o + 1 + j := ⟨k - (o + 1), by omega⟩
        rw [show o + 1 + j - (o + 1) = j by omega, show o + 1 + j - o = j + 1 by omega]
        simp
      · rw [if_neg h2, if_neg (by simp at h2 ⊢; omega)]
        simp [Array.getElem?_setIfInBounds, h]

theorem heap_setCells {b : Nat} {t : TypeId} {f : Nat × Nat} : ∀ (vs : List Value) (o : Nat) (w : World) (c : Array Value), w.heap[b]? = some (.cells c t f) → (w.setCells b o vs).heap[b]? = some (.cells (setL c o vs) t f)
  | [], _, _, _, h => h
  | v :: r, o, w, c, h => heap_setCells r (o + 1) _ _ (setAt (j := o) h v)
theorem touch_setCells {S : Nat → Prop} {b : Nat} (h : S b) : ∀ (vs : List Value) (o : Nat) (w : World), Touch S w (w.setCells b o vs)
  | [], _, w => Touch.refl _ w
  | v :: r, o, w => (touch_set w ⟨b, o, none⟩ v h).trans (touch_setCells h r (o + 1) _)

end Go.Proofs.Ytdkpbfigjdmfpaa

/- token's without: one of the drafts is taken out of a row, in place. Own work; no statement. -/
set_option linter.unusedSimpArgs false
set_option linter.unusedVariables false
namespace Go.Proofs.Ytdkpbfigjdmfpaa
open Go.RowKit Go.Shelf

section
variable {P : Program}
theorem run_copy_sized (w : World) (dT sT ty elem : TypeId) (size b o dLen dCap : Nat) (a : Addr) (sLen sCap : Nat) (cs : List Value)
    (hu : P.underlying dT = some (.slice elem)) (hs : (P.info? elem).map (·.size) = some size) (hn : cs.length = Nat.min sLen dLen * size)
    (hsrc : ∀ j v, cs[j]? = some v → w.cell? (a.add j) = some v) (hc : ∀ j, j < cs.length → (w.cell? ⟨b, o + j, none⟩).isSome = true) (hf : ∀ j, j < cs.length → w.frozen? ⟨b, o + j, none⟩ = false) (h1 : ∀ v ∈ cs, v.oneCell' = true) :
    (Builtin.copy_ #[dT, sT] ty #[.slice (some ⟨b, o, none⟩) dLen dCap, .slice (some a) sLen sCap]).run P w = .ok (goInt (Nat.min sLen dLen : Nat)) (w.setCells b o cs) := by
  have hl := run_loadCells_list (P := P) w a cs hsrc
  have hst := run_storeCells_cells (P := P) b o cs 0 w (by simpa using hc) (by simpa using hf) h1
  cases hq : P.info? elem with
  | none => simp [hq] at hs
  | some i =>
    have hi : i.size = size := by simpa [hq] using hs
    simp [Builtin.copy_, run_underlying hu, Builtin.lenOf, Builtin.firstCells, sizeOf, typeInfo, hq, hi, ← hn, hl, hst]
theorem wpList_copy_runT (w : World) {ops : Array Oper} {rest : List Oper} {o : Oper} {a : Act} {Q : Exit → Act → World → Prop} (hgd : o.guard = none) (d s : Operand) (t t' : TypeId)
    (ho : o.op = .call { callee := .builtin .copy, args := #[d, s], argTypes := #[t, t'] }) (v u : Value) (hd : a.eval d = v) (hs : a.eval s = u) {v' : Value} {w' : World}
    (hr : (Builtin.copy_ #[t, t'] o.type #[v, u]).run P w = .ok v' w') (h : wpList P ops Q rest (a.put o.dst v') w') : wpList P ops Q (o :: rest) a w := by
  refine wpList_plain hgd fun K hK => ?_
  unfold Oper.wp execOp
  simp only [ho, resolve, invoke, builtin, Sem.run_bind, Sem.run_pure, Result.andThen_ok, List.map_toArray, List.map_cons, List.map_nil, hd, hs, hr]
  exact hK _ _ h
end

theorem step_copy_runT {P : Program} {ops : Array Oper} {o : Oper} {a : Act} {w : World} {K : Act → World → Prop} {Q : Exit → Act → World → Prop} {E : Prop}
    (hg : o.guard = none) (d x : Operand) (dT sT : TypeId) (hop : o.op = Op.call { callee := Callee.builtin Builtin.copy, args := #[d, x], argTypes := #[dT, sT] })
    (v u : Value) (hd : a.eval d = v) (hx : a.eval x = u) {v' : Value} {w' : World} (hr : (Builtin.copy_ #[dT, sT] o.type #[v, u]).run P w = .ok v' w') (hK : K (a.put o.dst v') w') :
    if Region.wanted o (yielded ops a.tmps) = true then Oper.wp P o a w K Q else E := by
  have hw : Region.wanted o (yielded ops a.tmps) = true := by simp [Region.wanted, hg]
  rw [if_pos hw]
  unfold Oper.wp
  simp [execOp, hop, resolve, invoke, builtin, hd, hx, hr, Result.andThen]
  exact hK

/-- A slice of drafts in a block of one's own, from some place on. -/
def LeftD (w : World) (B : Nat) (v : Value) (l : List Dv) : Prop :=
  (v = .slice none 0 0 ∧ l = []) ∨ ∃ g off cap cur, v = .slice (some ⟨g, off, none⟩) l.length cap ∧ B ≤ g ∧ w.heap[g]? = some (.cells cur 41 (0, 0)) ∧ l.length ≤ cap ∧ off + cap * 6 ≤ cur.size ∧ ∀ t j (ht : t < l.length), j < 6 → cur[off + t * 6 + j]? = l[t].cells[j]?
theorem LeftD.of_row {w : World} {B : Nat} {v : Value} {l : List Dv} (h : w.ownsRow B 41 6 v l.length (l.flatMap Dv.cells)) : LeftD w B v l := by
  rcases h.2 with ⟨rfl, h0⟩ | ⟨g, cap, cur, rfl, hb, hg, hnc, hcm, hcs, ht⟩
  · exact .inl ⟨rfl, List.eq_nil_of_length_eq_zero h0⟩
  · refine .inr ⟨g, 0, cap, cur, rfl, hb, hg, hnc, by omega, fun t j ht' hj => ?_⟩
    have h1 := h.cellAt (t * 6 + j) (by omega)
    rw [cellsAt hg, flat6 l t j ht' hj] at h1
    rw [Nat.zero_add]
    exact h1
theorem LeftD.form {w : World} {B : Nat} {v : Value} {l : List Dv} (h : LeftD w B v l) : ∃ a cap, v = .slice a l.length cap := by
  rcases h with ⟨rfl, rfl⟩ | ⟨g, off, cap, cur, rfl, -⟩
  · exact ⟨_, _, rfl⟩
  · exact ⟨_, _, rfl⟩
theorem LeftD.lt {w : World} {B : Nat} {v : Value} {l : List Dv} (h : LeftD w B v l) : ∀ k, v.ownBlock = some k → B ≤ k ∧ k < w.heap.size := by
  intro k hk
  rcases h with ⟨rfl, -⟩ | ⟨g, off, cap, cur, rfl, hb, hg, -⟩
  · simp [Value.ownBlock] at hk
  · simp [Value.ownBlock] at hk
    subst hk
    exact ⟨hb, ltAt hg⟩
theorem LeftD.of_heap {w w' : World} {B : Nat} {v : Value} {l : List Dv} (h : LeftD w B v l) (hk : ∀ k, v.ownBlock = some k → w'.heap[k]? = w.heap[k]?) : LeftD w' B v l := by
  rcases h with h | ⟨g, off, cap, cur, rfl, hb, hg, rest⟩
  · exact .inl h
  · exact .inr ⟨g, off, cap, cur, rfl, hb, (hk g rfl).trans hg, rest⟩
theorem LeftD.new {w w' : World} {B : Nat} {v : Value} {l : List Dv} (h : LeftD w B v l) (hb : RowKit.Below w.heap.size w w') : LeftD w' B v l := h.of_heap fun k hk => hb.block k (h.lt k hk).2
/-- It is no block of another type. -/
theorem LeftD.not {w : World} {B : Nat} {v : Value} {l : List Dv} (h : LeftD w B v l) {b : Nat} {c : Array Value} {t : TypeId} {f : Nat × Nat} (hb : w.heap[b]? = some (.cells c t f)) (ht : t ≠ 41) : v.ownBlock ≠ some b := fun he => by
  rcases h with ⟨rfl, -⟩ | ⟨g, off, cap, cur, rfl, _, hg, _⟩
  · cases he
  · obtain rfl : g = b := by simpa [Value.ownBlock] using he
    rw [hb] at hg
    simp only [Option.some.injEq, Obj.cells.injEq] at hg
    exact ht hg.2.1
theorem LeftD.rd {w : World} {B : Nat} {v : Value} {l : List Dv} (h : LeftD w B v l) : RdD w v l := by
  rcases h with ⟨rfl, rfl⟩ | ⟨g, off, cap, cur, rfl, hb, hg, hc, hs, hx⟩
  · exact ⟨none, 0, rfl, Nat.le_refl _, fun _ => rfl, fun t h => absurd h (Nat.not_lt_zero t)⟩
  · exact ⟨_, cap, rfl, hc, (fun e => by cases e), fun t ht => ⟨g, off, rfl, fun j hj => (cellsAt hg _).trans (hx t j ht hj)⟩⟩

theorem cells_one {l : List Dv} (h : ∀ q ∈ l, ∃ a n c, q.vd = .slice a n c) : ∀ u ∈ l.flatMap Dv.cells, u.oneCell' = true := fun u hu => by
  obtain ⟨q, hq, hu⟩ := List.mem_flatMap.1 hu
  obtain ⟨a, n, c, e⟩ := h q hq
  exact one6 e u hu

set_option maxHeartbeats 2000000 in
set_option maxRecDepth 100000 in
theorem without_calls (B : Nat) (v : Value) (l : List Dv) (i : Nat) (w : World) (hv : LeftD w B v l) (hi : i < l.length) (h1 : ∀ q ∈ l, ∃ a n c, q.vd = .slice a n c) :
    Calls Try.prog 37 #[v, .int .i64 (i : Int)] w fun e w' => ∃ v', e = .returned v' ∧ LeftD w' B v' (l.eraseIdx i) ∧ v'.ownBlock = v.ownBlock ∧ Touch (fun k => v.ownBlock = some k) w w' := by
  rcases hv with ⟨-, rfl⟩ | ⟨g, off, cap, cur, rfl, hb, hg, hc, hs, hx⟩
  · simp at hi
  have hszd : (Try.prog.info? 41).map (·.size) = some 6 := by kernel_rfl
  have hlen : ((l.take i).flatMap Dv.cells).length = i * 6 := by rw [flat6_length, List.length_take, Nat.min_eq_left (by omega)]
  have hcell : ∀ (W : World), W.heap = w.heap → ∀ k, W.cell? ⟨g, k, none⟩ = cur[k]? := fun W hW k => cellsAt (by rw [hW]; exact hg) k
  have hcp : ∀ (W : World), W.heap = w.heap → ∀ ty dc sc, (Builtin.copy_ #[24, 24] ty #[.slice (some ⟨g, off + 6, none⟩) (l.length - 1) dc, .slice (some ⟨g, off, none⟩) i sc]).run Try.prog W = .ok (goInt (Nat.min i (l.length - 1) : Nat)) (W.setCells g (off + 6) ((l.take i).flatMap Dv.cells)) := fun W hW ty dc sc =>
    run_copy_sized W _ _ ty 41 6 g (off + 6) (l.length - 1) dc ⟨g, off, none⟩ i sc _ Try.underlying24 hszd (by rw [hlen]; congr 1; simp only [Nat.min_def]; split <;> omega)
      (fun j u hj => by
        have hjl : j < i * 6 := by rw [← hlen]; exact (List.getElem?_eq_some_iff.1 hj).1
        rw [Addr.add_lit, hcell W hW]
        have h2 := flat6 (l.take i) (j / 6) (j % 6) (by rw [List.length_take]; omega) (by omega)
        rw [show j / 6 * 6 + j % 6 = j by omega, hj, List.getElem_take] at h2
        rw [show off + j = off + j / 6 * 6 + j % 6 by omega, hx _ _ (by omega) (by omega), ← h2])
      (fun j hj => by
        rw [hlen] at hj
        rw [hcell W hW, Array.getElem?_eq_getElem (by omega)]
        rfl)
      (fun j _ => by simp [World.frozen?, hW, hg]) (cells_one fun q hq => h1 q (List.mem_of_mem_take hq))
  obtain ⟨cs, hcs⟩ : ∃ cs, (l.take i).flatMap Dv.cells = cs := ⟨_, rfl⟩
  rw [hcs] at hcp hlen
  have Hcp := hide hcp
  have Hcs := hide hcs
  have Hlen := hide hlen
  have Hx := hide hx
  have Hg := hide hg
  have Hh1 := hide h1
  clear hcp hcs hlen hx hg h1 hcell
  have hiI : (i : Int) ≤ (l.length : Int) := by omega
  have hnI : (1 : Int) ≤ (l.length : Int) := by omega
  have hcI : (i : Int) ≤ (cap : Int) := by omega
  by_cases hc1 : cap = 1
  · subst hc1
    obtain rfl : i = 0 := by omega
    have hl1 : l.length = 1 := by omega
    have hcp1 : ∀ (W : World) ty, (Builtin.copy_ #[24, 24] ty #[.slice (some ⟨g, off, none⟩) 0 0, .slice (some ⟨g, off, none⟩) 0 1]).run Try.prog W = .ok (goInt (Nat.min 0 0 : Nat)) (W.setCells g off []) := fun W ty =>
      run_copy_sized W _ _ ty 41 6 g off 0 0 ⟨g, off, none⟩ 0 1 [] Try.underlying24 hszd rfl (fun j u hj => by simp at hj) (fun j hj => absurd hj (by simp)) (fun j hj => absurd hj (by simp)) (fun v hv => by cases hv)
    rw [hl1] at hnI hiI ⊢
    have Hl1 := hide hl1
    clear hl1 Hcp
    go_enter Try.func37, Try.ntmps37
    go_wp2_with fail
    go_region_law (refine step_copy_runT rfl (.tmp 6) (.tmp 9) 24 24 rfl (.slice (some ⟨g, off, none⟩) 0 0) (.slice (some ⟨g, off, none⟩) 0 1) (by simp [Act.eval, Act.put]) (by simp [Act.eval, Act.put]) (hcp1 _ _) ?_)
    go_wp2_with fail
    go_ret
    have hl2 : (l.eraseIdx 0).length = 0 := by rw [List.length_eraseIdx, if_pos hi, Hl1.out]
    refine ⟨_, rfl, .inr ⟨g, off, 0, cur, by rw [hl2]; rfl, hb, Hg.out, by omega, by omega, fun t j ht => by omega⟩, rfl, touch_new (drewsB w 1)⟩
  · go_enter Try.func37, Try.ntmps37
    go_wp2_with fail
    go_region_law (refine step_copy_runT rfl (.tmp 6) (.tmp 9) 24 24 rfl (.slice (some ⟨g, off + 6, none⟩) (l.length - 1) (cap - 1)) (.slice (some ⟨g, off, none⟩) i cap) (by simp [Act.eval, Act.put]) (by simp [Act.eval, Act.put]) (Hcp.out w.drew rfl _ _ _) ?_)
    go_wp2_with fail
    go_ret
    have hl2 : (l.eraseIdx i).length = l.length - 1 := by rw [List.length_eraseIdx, if_pos hi]
    have hcsl := Hlen.out
    refine ⟨_, rfl, .inr ⟨g, off + 6, cap - 1, _, by rw [hl2]; rfl, hb, heap_setCells cs (off + 6) w.drew cur Hg.out, by omega, by rw [setL_size]; omega, fun t j ht hj => ?_⟩, rfl, (touch_new (drewsB w 1)).trans (touch_setCells (S := fun k => (Value.slice (some ⟨g, off, none⟩) l.length cap).ownBlock = some k) rfl cs (off + 6) w.drew)⟩
    rw [hl2] at ht
    rw [setL_get _ _ _ _ (by omega)]
    by_cases hti : t < i
    · rw [if_pos (by omega), show off + 6 + t * 6 + j - (off + 6) = t * 6 + j by omega, ← Hcs.out, flat6 (l.take i) t j (by rw [List.length_take]; omega) hj, List.getElem_take, List.getElem_eraseIdx_of_lt (by rw [hl2]; exact ht) hti]
    · rw [if_neg (by omega), show off + 6 + t * 6 + j = off + (t + 1) * 6 + j by omega, Hx.out (t + 1) j (by omega) hj, List.getElem_eraseIdx_of_ge (by rw [hl2]; exact ht) (by omega)]

end Go.Proofs.Ytdkpbfigjdmfpaa
