/- Maps in rows of one's own: slices.Clone, Grow, Concat at them; stripe's Add. Own work; no statement. -/
import Derived.Test.YtndhkbmgpjjepaaDoorM2
import Derived.Laws.AppendOwnNone
import Derived.Lib.AppendZeros
import Derived.Deep.LoopGhost
set_option linter.unusedSimpArgs false
set_option linter.unusedVariables false
namespace Go.Proofs.YtndhkbmgpjjepaaDoor
open Go.RowKit Go.Shelf

/-- A map's numbers, one behind the other. -/
def cellsM (m : MapD) : List Value := m.flatMap fun x => [.int .i64 x.1, .int .i64 x.2]
theorem cellsM_cons (x : Int × Int) (m : MapD) : cellsM (x :: m) = .int .i64 x.1 :: .int .i64 x.2 :: cellsM m := rfl
theorem cellsM_append (a b : MapD) : cellsM (a ++ b) = cellsM a ++ cellsM b := by simp [cellsM]
theorem cellsM_length : ∀ m : MapD, (cellsM m).length = m.length * 2
  | [] => rfl
  | x :: m => by rw [cellsM_cons]; simp [cellsM_length m]; omega
theorem cellsM_get : ∀ (m : MapD) (t : Nat) (h : t < m.length), (cellsM m)[t * 2]? = some (.int .i64 m[t].1) ∧ (cellsM m)[t * 2 + 1]? = some (.int .i64 m[t].2)
  | [], t, h => absurd h (by simp)
  | x :: m, 0, _ => ⟨rfl, rfl⟩
  | x :: m, t + 1, h => by
    have := cellsM_get m t (by simpa using h)
    rw [cellsM_cons, show (t + 1) * 2 = t * 2 + 1 + 1 by omega]
    simpa using this
theorem cellsM_one (m : MapD) : ∀ u ∈ cellsM m, u.oneCell' = true := by
  intro u hu
  simp only [cellsM, List.mem_flatMap, List.mem_cons, List.not_mem_nil, or_false] at hu
  obtain ⟨x, _, rfl | rfl⟩ := hu <;> rfl

/-- The slice v is a row of one's own that holds the map m. -/
abbrev OwnsM (w : World) (B : Nat) (v : Value) (m : MapD) : Prop := w.ownsRow B 48 2 v m.length (cellsM m)
theorem OwnsM.map {w : World} {B : Nat} {v : Value} {m : MapD} (h : OwnsM w B v m) : IsMap w v m := by
  rcases h.2 with ⟨rfl, h0⟩ | ⟨g, cap, cur, rfl, hb, hg, hnc, hcm, hcs, ht⟩
  · obtain rfl : m = [] := List.eq_nil_of_length_eq_zero h0
    exact IsMap.nil w
  · refine ⟨_, cap, rfl, (fun e => by cases e), fun t ht' => ⟨g, 0, rfl, ?_, ?_⟩⟩
    · rw [Nat.zero_add, h.cellAt _ (by omega)]
      exact (cellsM_get m t ht').1
    · rw [Nat.zero_add, h.cellAt _ (by omega)]
      exact (cellsM_get m t ht').2
/-- What lies where a slice says, nil too. -/
def SrcM (w : World) (vx : Value) (m : Nat) (news : List Value) : Prop := (vx = .slice none 0 0 ∧ m = 0 ∧ news = []) ∨ ∃ ad c, vx = .slice (some ad) m c ∧ ∀ j u, news[j]? = some u → w.cell? (ad.add j) = some u
theorem IsMap.src {w : World} {v : Value} {m : MapD} (h : IsMap w v m) : SrcM w v m.length (cellsM m) := by
  obtain ⟨a, cap, rfl, h0, hc⟩ := h
  cases a with
  | none =>
    have e : m = [] := by
      cases m with
      | nil => rfl
      | cons x r =>
        obtain ⟨b, o, e, _⟩ := hc 0 (by simp)
        cases e
    subst e
    rw [h0 rfl]
    exact .inl ⟨rfl, rfl, rfl⟩
  | some ad =>
    refine .inr ⟨ad, cap, rfl, fun j u hj => ?_⟩
    have hjl : j < m.length * 2 := by rw [← cellsM_length]; exact (List.getElem?_eq_some_iff.1 hj).1
    obtain ⟨b, o, e, c0, c1⟩ := hc (j / 2) (by omega)
    cases e
    obtain ⟨g0, g1⟩ := cellsM_get m (j / 2) (by omega)
    rw [Addr.add_lit]
    rcases Nat.mod_two_eq_zero_or_one j with h | h
    · have e : j / 2 * 2 = j := by omega
      rw [e] at g0 c0
      rw [c0, ← hj, g0]
    · have e : j / 2 * 2 + 1 = j := by omega
      rw [Nat.add_assoc, e] at c1
      rw [e] at g1
      rw [c1, ← hj, g1]
theorem wpList_append_srcM {P : Program} {w : World} {ops : Array Oper} {rest : List Oper} {o : Oper} {a : Act} {Q : Exit → Act → World → Prop} (hgd : o.guard = none) (s x : Operand) (t : TypeId)
    (ho : o.op = .call { callee := .builtin .append, args := #[s, x], argTypes := #[t, t] })
    (base : Nat) (e : TypeId) (i : TypeInfo) (z : Value) (size bytes : Nat) (ht : P.underlying t = some (.slice e)) (hi : P.info? e = some i) (hz : i.zero = some z)
    (hsize : i.size = size) (hby : i.bytes = bytes) (hzs : z.cells.size = size) (hsz : 0 < size)
    (v : Value) (n : Nat) (xs : List Value) (hs : a.eval s = v) (hown : w.ownsRow base e size v n xs)
    (vx : Value) (m : Nat) (news : List Value) (hx : a.eval x = vx) (hsrc : SrcM w vx m news) (hl : news.length = m * size) (h1 : ∀ u ∈ news, u.oneCell' = true)
    (h63 : n + m ≤ maxLen) (hbytes : (n + m) * bytes ≤ 140737488355328) (hbase : base ≤ w.heap.size)
    (h : ∀ v' w', w'.ownsRow base e size v' (n + m) (xs ++ news) → w.grownBy w' v.ownBlock → wpList P ops Q rest (a.put o.dst v') w') : wpList P ops Q (o :: rest) a w := by
  rcases hsrc with ⟨rfl, rfl, rfl⟩ | ⟨ad, c, rfl, hc⟩
  · refine wpList_append_own_none hgd s x t ho base e i size ht hi v n xs hs hown hx (h v w (by rw [List.append_nil]; exact hown) (World.grownBy.refl _ _))
  · exact wpList_append_own w hgd s x t ho base e i z size bytes ht hi hz hsize hby hzs hsz v n xs hs hown ad m c news hx hl hc h1 h63 hbytes hbase fun v' w' h2 h3 _ => h v' w' h2 h3

theorem Tryd.info48 : (Tryd.prog.info? 48).map (fun i => (i.zero, i.size, i.bytes)) = some (some (.agg #[.int .i64 0, .int .i64 0]), 2, 16) := by kernel_rfl

theorem mapClone_calls (v : Value) (m : MapD) (w : World) (hv : IsMap w v m) (h0 : 0 < m.length) (hl : m.length ≤ 1099511627776) :
    Calls Tryd.prog 31 #[v] w fun e w' => ∃ v', e = .returned v' ∧ OwnsM w' w.heap.size v' m ∧ Below w.heap.size w w' := by
  obtain ⟨i0, hi0, hz0, hz1, hz2⟩ := info_parts Tryd.info48
  obtain ⟨a, cap, rfl, -, hc⟩ := id hv
  obtain ⟨b, o, rfl, -⟩ := hc 0 h0
  rcases hv.src with ⟨e, -⟩ | ⟨ad, c, e, hc⟩
  · cases e
  · cases e
    refine (AnyE.slices_Clone Tryd.laysCloneSpan i0 _ 2 16 hi0 hz0 hz1 hz2 rfl (by decide) (fun w => Tryd.sizeOf48 w) b o m.length cap (cellsM m) w (cellsM_length m) (by unfold maxLen; omega) (by omega) (fun j u hu => ?_) (cellsM_one m)).mono ?_
    · have := hc j u hu
      rwa [Addr.add_lit] at this
    · rintro e w' ⟨v', rfl, hown, -, hB⟩
      exact ⟨v', rfl, hown, hB⟩

theorem mapGrow_calls (n : Nat) (h0 : 0 < n) (hn : n ≤ 1099511627776) (w : World) :
    Calls Tryd.prog 35 #[.slice none 0 0, .int .i64 (n : Int)] w fun e w' => ∃ v', e = .returned v' ∧ OwnsM w' w.heap.size v' [] ∧ Below w.heap.size w w' := by
  obtain ⟨i0, hi0, hz0, hz1, hz2⟩ := info_parts Tryd.info48
  have hrz : ∀ ty, (Builtin.append_ #[23, 3] ty #[.slice none 0 0, .int .i64 (n : Int)]).run Tryd.prog w = _ := fun ty =>
    Lib.run_append_nil_zeros w 23 3 ty 48 i0 _ .i64 .i64 Tryd.underlying23 Tryd.underlying3 hi0 hz0 n h0 (by omega) (by omega) (by rw [hz2]; omega)
  obtain ⟨G, hG⟩ : ∃ G, G = grownCap w n 0 48 := ⟨_, rfl⟩
  rw [← hG] at hrz
  have hGn : n ≤ G := by rw [hG]; exact grownCap_ge w _ _ _
  have hGm : G ≤ maxLen := by rw [hG]; exact grownCap_le_maxLen w n 0 48 (by unfold maxLen; omega)
  have hG63 : G ≤ 9223372036854775807 := by unfold maxLen at hGm; omega
  obtain ⟨ROW, hROW⟩ : ∃ ROW : Array Value, ROW = Builtin.zeroCells (Value.agg #[.int .i64 0, .int .i64 0]).cells n ++ Builtin.zeroCells (Value.agg #[.int .i64 0, .int .i64 0]).cells (G - n) := ⟨_, rfl⟩
  rw [← hROW] at hrz
  have hRl : ROW.size = G * 2 := by
    rw [hROW]
    simp [Builtin.zeroCells, Value.cells]
    omega
  obtain ⟨W1, hW1⟩ : ∃ W1, W1 = w.drew.alloc (.cells ROW 48) := ⟨_, rfl⟩
  rw [← hW1] at hrz
  have hb1 : W1.heap[w.heap.size]? = some (.cells ROW 48 (0, 0)) := by rw [hW1]; exact World.alloc_heap_new w.drew _
  have hB1 : Below w.heap.size w W1 := by rw [hW1]; exact ((Below.refl _ w).drew).alloc (Nat.le_refl _) _
  have hGnI : ¬ (n : Int) < 0 := by omega
  have h0I : (n : Int) > 0 := by omega
  clear hG hROW hW1
  go_enter Tryd.func35, Tryd.ntmps35
  go_wp2_with (at_builtin; refine Lib.wpList_append_run _ rfl _ _ 23 3 rfl _ _ rfl rfl _ _ (hrz _) ?_)
  go_ret
  exact ⟨_, rfl, ⟨rfl, .inr ⟨w.heap.size, G, ROW, rfl, Nat.le_refl _, hb1, Nat.zero_le _, hGm, hRl, by simp [cellsM]⟩⟩, hB1⟩

set_option maxHeartbeats 2000000 in
set_option maxRecDepth 100000 in
theorem mapConcat_calls (va vb : Value) (x y : MapD) (b : Nat) (w : World) (ha : IsMap w va x) (hb : IsMap w vb y) (h0 : 0 < x.length + y.length) (hl : x.length + y.length ≤ 1099511627776) (hc0 : w.cell? ⟨b, 0, none⟩ = some va) (hc1 : w.cell? ⟨b, 1, none⟩ = some vb) :
    Calls Tryd.prog 24 #[.slice (some ⟨b, 0, none⟩) 2 2] w fun e w' => ∃ v', e = .returned v' ∧ OwnsM w' w.heap.size v' (x ++ y) ∧ Below w.heap.size w w' := by
  obtain ⟨i0, hi0, hz0, hz1, hz2⟩ := info_parts Tryd.info48
  have Ha := hide ha
  have Hb := hide hb
  obtain ⟨aa, ca, rfl⟩ := ha.slice
  obtain ⟨ab, cb, rfl⟩ := hb.slice
  clear ha hb
  have hbw : b < w.heap.size := World.block_lt_of_cell? w _ hc0
  have hs1 : ¬ ((x.length : Int) < 0) := by omega
  have hs2 : ¬ ((x.length : Int) + (y.length : Int) < 0) := by omega
  have G := hide (mapGrow_calls (x.length + y.length) h0 hl w)
  rw [show ((x.length + y.length : Nat) : Int) = (x.length : Int) + (y.length : Int) by omega] at G
  go_enter Tryd.func24, Tryd.ntmps24
  go_wp2
  refine wp_loop_rounds 3 ?_
  rw [rounds_succ]
  go_wp2
  rw [rounds_succ]
  go_wp2
  rw [rounds_succ]
  go_wp2_with (go_at_call 35; refine G.out.mono ?_; rintro e w1 ⟨v1, rfl, hown1, hB1⟩)
  have d0 : w1.cell? ⟨b, 0, none⟩ = _ := (hB1.cell (p := ⟨b, 0, none⟩) hbw).trans hc0
  have d1 : w1.cell? ⟨b, 1, none⟩ = _ := (hB1.cell (p := ⟨b, 1, none⟩) hbw).trans hc1
  have hbs1 := hB1.size
  have Sa := hide (Ha.out.below hB1).src
  clear hc0 hc1 G
  refine wp_loop_rounds 3 ?_
  rw [rounds_succ]
  go_wp2_with (at_builtin; refine wpList_append_srcM rfl _ _ 23 rfl w.heap.size 48 i0 _ 2 16 Tryd.underlying23 hi0 hz0 hz1 hz2 rfl (by decide) _ _ _ rfl hown1 _ x.length (cellsM x) rfl Sa.out (cellsM_length x) (cellsM_one x) (by unfold maxLen; simp; omega) (by simp; omega) hbs1 ?_; intro v2 w2 hown2 hgrow2; clear Sa)
  have hB2 : Below w.heap.size w w2 := hB1.grown hgrow2 hB1.size (fun k hk => (hown1.lt k hk).1)
  have hbs2 := hB2.size
  have e0 : w2.cell? ⟨b, 0, none⟩ = _ := (hB2.cell (p := ⟨b, 0, none⟩) hbw).trans ((hB1.cell (p := ⟨b, 0, none⟩) hbw).symm.trans d0)
  have e1 : w2.cell? ⟨b, 1, none⟩ = _ := (hB2.cell (p := ⟨b, 1, none⟩) hbw).trans ((hB1.cell (p := ⟨b, 1, none⟩) hbw).symm.trans d1)
  have Sb := hide (Hb.out.below hB2).src
  rw [show ([] : MapD).length + x.length = x.length by simp, show cellsM [] ++ cellsM x = cellsM x from rfl] at hown2
  clear d0 d1 hown1 hgrow2
  rw [rounds_succ]
  go_wp2_with (at_builtin; refine wpList_append_srcM rfl _ _ 23 rfl w.heap.size 48 i0 _ 2 16 Tryd.underlying23 hi0 hz0 hz1 hz2 rfl (by decide) _ _ _ rfl hown2 _ y.length (cellsM y) rfl Sb.out (cellsM_length y) (cellsM_one y) (by unfold maxLen; omega) (by omega) hbs2 ?_; intro v3 w3 hown3 hgrow3; clear Sb)
  have hB3 : Below w.heap.size w w3 := hB2.grown hgrow3 hB2.size (fun k hk => (hown2.lt k hk).1)
  clear hgrow3
  rw [rounds_succ]
  go_wp2
  go_ret
  exact ⟨_, rfl, by rw [OwnsM, List.length_append, cellsM_append]; exact hown3, hB3⟩

/-- A map with a span more, and Check's number of it; refused: none. -/
def addM (m : MapD) (from_ n : Int) : MapD := if okMap (m ++ [(from_, n)]) then m ++ [(from_, n)] else []

set_option maxHeartbeats 2000000 in
set_option maxRecDepth 100000 in
theorem mapAdd_calls (v : Value) (m : MapD) (f n : Int) (w : World) (hv : IsMap w v m) (hl : m.length + 1 ≤ 1099511627776) :
    Calls Tryd.prog 12 #[v, .int .i64 f, .int .i64 n] w fun e w' => ∃ v', e = .returned (.tuple #[v', .int .i64 (checkM (m ++ [(f, n)]))]) ∧ OwnsM w' w.heap.size v' (addM m f n) ∧ Below w.heap.size w w' := by
  obtain ⟨a, cap, rfl⟩ := hv.slice
  obtain ⟨w0, hw0⟩ : ∃ w0, (w.alloc (.cells #[.int .i64 f, .int .i64 n] 48)).alloc (.cells #[.slice a m.length cap, .slice (some ⟨w.heap.size, 0, none⟩) 1 1] 23) = w0 := ⟨_, rfl⟩
  have hB0 : Below w.heap.size w w0 := by rw [← hw0]; exact ((Below.refl _ w).alloc (Nat.le_refl _) _).alloc (by simp) _
  have hs0 : w0.heap.size = w.heap.size + 2 := by rw [← hw0]; simp
  have hb0 : w0.heap[w.heap.size]? = some (.cells #[.int .i64 f, .int .i64 n] 48 (0, 0)) := by
    rw [← hw0]
    exact (Below.heap_alloc _ _ _ (by simp)).trans (World.alloc_heap_new w _)
  have hb1 : w0.heap[w.heap.size + 1]? = some (.cells #[.slice a m.length cap, .slice (some ⟨w.heap.size, 0, none⟩) 1 1] 23 (0, 0)) := by
    rw [← hw0]
    have := World.alloc_heap_new (w.alloc (.cells #[.int .i64 f, .int .i64 n] 48)) (.cells #[.slice a m.length cap, .slice (some ⟨w.heap.size, 0, none⟩) 1 1] 23)
    rwa [World.size_alloc] at this
  have hy : IsMap w0 (.slice (some ⟨w.heap.size, 0, none⟩) 1 1) [(f, n)] := ⟨_, 1, rfl, (fun e => by cases e), fun t ht => by
    have e : t = 0 := by simpa using ht
    subst e
    exact ⟨w.heap.size, 0, rfl, by simpa using cellsAt hb0 0, by simpa using cellsAt hb0 1⟩⟩
  have C := hide (mapConcat_calls _ _ m [(f, n)] (w.heap.size + 1) w0 (hv.below hB0) hy (by simp) (by simpa using hl) (by simpa using cellsAt hb1 0) (by simpa using cellsAt hb1 1))
  have Hw := hide hw0
  clear hv hw0 hb0 hb1 hy
  obtain ⟨L, hL⟩ : ∃ L, m ++ [(f, n)] = L := ⟨_, rfl⟩
  have hLl : L.length ≤ 1099511627776 := by rw [← hL]; simpa using hl
  unfold addM
  rw [hL] at C ⊢
  clear hL hl
  by_cases hok : okMap L = true
  · have hc0 : checkM L = 0 := by rw [checkM, if_pos hok]
    rw [if_pos hok, hc0]
    go_enter Tryd.func12, Tryd.ntmps12
    go_wp2_with fail
    rw [Hw.out]
    refine C.out.mono ?_
    rintro e w1 ⟨v1, rfl, hown1, hB1⟩
    have K := hide (mapCheck_calls _ L w1 (OwnsM.map hown1) (by omega))
    obtain ⟨a1, cap1, rfl⟩ := ownsRow_slice hown1
    rw [hc0] at K
    clear C Hw
    go_wp2_with (go_at_call 14; refine K.out.mono ?_; rintro e w2 ⟨rfl, hB2⟩)
    go_ret2
    exact ⟨_, rfl, ownsRow_low (ownsRow_of_heap hown1 fun k e => hB2.block k (hown1.lt k e).2) (by omega), (hB0.trans (hB1.mono hB0.size)).trans (hB2.mono (hB0.trans (hB1.mono hB0.size)).size)⟩
  · have hc0 : checkM L = 1 := by rw [checkM, if_neg hok]
    rw [if_neg hok, hc0]
    go_enter Tryd.func12, Tryd.ntmps12
    go_wp2_with fail
    rw [Hw.out]
    refine C.out.mono ?_
    rintro e w1 ⟨v1, rfl, hown1, hB1⟩
    have K := hide (mapCheck_calls _ L w1 (OwnsM.map hown1) (by omega))
    obtain ⟨a1, cap1, rfl⟩ := ownsRow_slice hown1
    rw [hc0] at K
    clear C Hw
    go_wp2_with (go_at_call 14; refine K.out.mono ?_; rintro e w2 ⟨rfl, hB2⟩)
    go_ret2
    exact ⟨_, rfl, World.ownsRow_nil _ _ _ _, (hB0.trans (hB1.mono hB0.size)).trans (hB2.mono (hB0.trans (hB1.mono hB0.size)).size)⟩

end Go.Proofs.YtndhkbmgpjjepaaDoor
