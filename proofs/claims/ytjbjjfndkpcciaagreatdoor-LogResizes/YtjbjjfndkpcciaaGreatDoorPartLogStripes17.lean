/- Own work: the parts G16, G17, HeadTwo, G18, G19 of the proof, laid together. -/
import Derived.Test.YtjbjjfndkpcciaaGreatDoorPartLogStripes15
import Derived.Test.YtjbjjfndkpcciaaGreatDoorPartLogStripes16
import Derived.Test.YtjbjjfndkpcciaaGreatDoorPartLogStripes6
/- A log's vector. Own work; no statement. -/
set_option linter.unusedSimpArgs false
set_option linter.unusedVariables false
namespace Go.Proofs.YtjbjjfndkpcciaaGreatDoor
open Go.RowKit Go.Shelf Go.Sort

attribute [local go_sem] Oper.semAt_some

/-- A vector with records taken in. -/
def takeIn (v : List Int) (l : List (Int × RecD)) : List Int := l.foldl (fun v p => withL v p.2.site p.2.seq) v
theorem takeIn_snoc (v : List Int) (l : List (Int × RecD)) (p : Int × RecD) : takeIn v (l ++ [p]) = withL (takeIn v l) p.2.site p.2.seq := by simp [takeIn]
theorem withL_length (l : List Int) (i n : Int) (h : l.length ≤ 64) : (withL l i n).length ≤ 64 := by
  unfold withL
  split
  · exact h
  · rw [List.length_set]
    unfold stretchL
    simp
    omega
theorem takeIn_length (v : List Int) (h : v.length ≤ 64) : ∀ l : List (Int × RecD), (takeIn v l).length ≤ 64 := by
  intro l
  unfold takeIn
  induction l generalizing v with
  | nil => exact h
  | cons x r ih => exact ih _ (withL_length _ _ _ h)
/-- The vector of what is gone and of the records below a position. -/
def LogD.vecTo (L : LogD) (to : Int) : List Int := takeIn L.gone (L.recs L.trim (to - L.trim).toNat)

theorem recs_get (L : LogD) (pos : Int) (N k : Nat) (h : k < N) : (L.recs pos N)[k]? = some (pos + (k : Int), (L.get (pos + (k : Int))).1) := by simp [LogD.recs, h]
/-- All were below. -/
theorem vec_done {L : LogD} {fr to : Int} {N : Nat} {ys : List Pl} (hN : L.Has fr N) (h1 : fr ≤ to) (h2 : to ≤ L.next) (hys : ys.map (fun p => (p.i, p.r)) = L.recs fr N) (h : ∀ x ∈ ys, x.i < to) : ys.map (fun p => (p.i, p.r)) = L.recs fr (to - fr).toNat := by
  have hst := hN.stop
  have hle : (N : Int) ≤ to - fr := by
    rcases Nat.eq_zero_or_pos N with e | e
    · omega
    · have hg := recs_get L fr N (N - 1) (by omega)
      rw [← hys, List.getElem?_map] at hg
      obtain ⟨x, hx, e2⟩ := Option.map_eq_some_iff.1 hg
      have := h x (List.mem_of_getElem? hx)
      simp only [Prod.mk.injEq] at e2
      omega
  rw [hys, show (to - fr).toNat = N by omega]
/-- The next one was not. -/
theorem vec_stop {L : LogD} {fr to : Int} {N : Nat} {pre : List Pl} {x : Pl} (h1 : fr ≤ to) (hp : (pre ++ [x]).map (fun p => (p.i, p.r)) <+: L.recs fr N) (hx : to ≤ x.i) (h : ∀ x ∈ pre, x.i < to) : pre.map (fun p => (p.i, p.r)) = L.recs fr (to - fr).toNat := by
  have hlen := hp.length_le
  rw [List.length_map, recs_length, List.length_append, List.length_singleton] at hlen
  have hat : ∀ k (hk : k < (pre ++ [x]).length), ((pre ++ [x])[k]).i = fr + (k : Int) := fun k hk => by
    have e := List.IsPrefix.getElem hp (i := k) (by simpa using hk)
    rw [List.getElem_map] at e
    have hkN : k < N := by simp at hk; omega
    have hg := recs_get L fr N k hkN
    rw [List.getElem?_eq_getElem (by rw [recs_length]; exact hkN), ← e] at hg
    simp only [Option.some.injEq, Prod.mk.injEq] at hg
    exact hg.1
  have hxe : x.i = fr + (pre.length : Int) := by
    have := hat pre.length (by simp)
    rw [List.getElem_append_right (Nat.le_refl _)] at this
    simpa using this
  have hle : (pre.length : Int) ≤ to - fr := by
    rcases Nat.eq_zero_or_pos pre.length with e | e
    · omega
    · have h3 := hat (pre.length - 1) (by simp; omega)
      rw [List.getElem_append_left (by omega)] at h3
      have := h _ (List.getElem_mem (by omega : pre.length - 1 < pre.length))
      omega
  rw [show (to - fr).toNat = pre.length by omega]
  have hp2 : pre.map (fun p => (p.i, p.r)) <+: L.recs fr N := by
    rw [List.map_append] at hp
    exact (List.prefix_append _ _).trans hp
  have hp3 := recs_take L fr N pre.length (by omega)
  exact List.IsPrefix.eq_of_length (List.prefix_of_prefix_length_le hp2 hp3 (by simp [recs_length])) (by simp [recs_length])

set_option maxRecDepth 100000 in
set_option maxHeartbeats 4000000 in
theorem vector_calls (B : Nat) (m : LogM) (L : LogD) (to : Int) (N : Nat) (w : World) (hd : IsLog w B m L) (hf : L.fm) (hu : L.down = false → L.up) (hN : L.Has L.trim N) (h1 : L.trim ≤ to) (h2 : to ≤ L.next) (h3 : to ≤ 9223372036854775807) :
    Calls Tryz.prog 80 #[.pointer (some ⟨m.p, 0, none⟩), .int .i64 to] w fun e w' => ∃ v, e = .returned v ∧ w'.ownsRow w.heap.size 3 1 v (L.vecTo to).length ((L.vecTo to).map (Value.int .i64)) ∧ Below w.heap.size w w' := by
  obtain ⟨vs, vg, -, r2, -, -, -, c11, c12, -, -, -, -⟩ := hd.cells
  have hg8 := hf.gone8
  obtain ⟨ga, gc, rfl⟩ := ownsRow_slice r2
  have C1 := hide (fun W (h : Below w.heap.size w W) => cloneVec_calls _ L.gone W ((IsNums.of_row r2).below h) (by omega))
  have Hd := hide hd
  have hlt := hd.lt
  clear hd r2
  refine (callsIn_wide (n := 5)).1 ?_
  refine callsIn_of_wp_marks Tryz.func80 rfl trivial ?_ rfl
  simp only [Tryz.ntmps80, List.size_toArray, List.length_cons, List.length_nil, Nat.reduceAdd, Nat.reduceSub, Array.replicate_succ, Array.replicate_zero, List.push_toArray, List.append_toArray, List.nil_append, List.cons_append]
  refine wpIn_wide.2 ?_
  go_wp2_with fail
  go_step3
  go_wp2_with fail
  have b0 := box_below w (.cells #[.int .i64 to] 3)
  have x0 := World.alloc_heap_new w (.cells #[.int .i64 to] 3)
  obtain ⟨w0, hw0⟩ : ∃ w0, w.alloc (.cells #[.int .i64 to] 3) = w0 := ⟨_, rfl⟩
  have s0 : w0.heap.size = w.heap.size + 1 := by rw [← hw0]; simp
  rw [hw0] at b0 x0 ⊢
  clear hw0
  refine (C1.out w0 b0).mono ?_
  rintro e w1 ⟨vv, rfl, hown1, hb1⟩
  have x1 := keepB x0 hb1
  have b1 := b0.trans (hb1.mono b0.size)
  obtain ⟨_, _, -, -, -, -, -, d11, -, -, -, -, -⟩ := (Hd.out.keep b1).cells
  have hlt1 : m.p < w1.heap.size := by have := b1.size; omega
  have hs1 := hb1.size
  obtain ⟨va, vcap, rfl⟩ := ownsRow_slice hown1
  clear C1 c11 c12 x0
  go_wp2_with fail
  go_step3
  go_wp2_with fail
  have xv := World.alloc_heap_new w1 (.cells #[.slice va L.gone.length vcap] 34)
  have bB := box_below w1 (.cells #[.slice va L.gone.length vcap] 34)
  obtain ⟨w2, hw2⟩ : ∃ w2, w1.alloc (.cells #[.slice va L.gone.length vcap] 34) = w2 := ⟨_, rfl⟩
  have s2 : w2.heap.size = w1.heap.size + 1 := by rw [← hw2]; simp
  rw [hw2] at xv bB ⊢
  clear hw2
  have b2 := b1.trans (bB.mono b1.size)
  refine (from_calls m.p L.trim w2).mono ?_
  rintro e w3 ⟨rfl, y1, y0, b3', s3⟩
  have b3 := b2.trans (b3'.mono b2.size)
  have x3 := keepB (keepB x1 bB) b3'
  have xv3 := keepB xv b3'
  have hrow3 := own_below (own_below hown1 bB) b3'
  have I3 := Hd.out.keep b3
  clear x1 xv hown1 b3' bB d11
  go_wp2_with fail
  have hon : ∀ k, m.on k → k < w.heap.size := fun k hk => (Hd.out.on hk).2
  have hA : IsFrom w3 B (w1.heap.size + 1 + 1) (w1.heap.size + 1) m L L.trim := ⟨by rw [← s2]; exact y1, by rw [← s2]; exact y0, I3⟩
  have hw01 : w.heap.size < w1.heap.size := by omega
  have hs31 : w3.heap.size = w1.heap.size + 3 := by omega
  refine (wpIn_wide (n := 5)).1 ?_
  refine range_lawR (by decide) (gf := 189) (lb := #[.pointer (some ⟨w1.heap.size + 1 + 1, 0, none⟩), .pointer (some ⟨w1.heap.size + 1, 0, none⟩)]) rfl (enters_of Tryz.func189 (by kernel_rfl) rfl)
    (from_stops 4 (by decide) (fun k => k = w1.heap.size) _ _ B m L L.trim N hf hu hN w3 w3 hA (Below.refl _ _) (firm_one xv3 ⟨by decide, by decide, by decide⟩) (fun k hk e => by have := hon k hk; omega) (by omega) (by omega)) keepsX_t (keepsX_b (Nat.le_refl _)) ?hE (fun _ => rfl)
    (fun pre W => (∃ vv, W.heap[w1.heap.size]? = some (.cells #[vv] 34 (0, 0)) ∧ W.heap[w.heap.size]? = some (.cells #[.int .i64 to] 3 (0, 0)) ∧ W.ownsRow w.heap.size 3 1 vv (takeIn L.gone (pre.map fun p => (p.i, p.r))).length ((takeIn L.gone (pre.map fun p => (p.i, p.r))).map (Value.int .i64)) ∧ (∀ x ∈ pre, x.i < to) ∧ w1.heap.size + 3 ≤ W.heap.size) ∧ Below w.heap.size w W)
    (fun c pre W => (c = .exit 0 ∧ ∃ pre0 x, pre = pre0 ++ [x] ∧ to ≤ x.i ∧ ∃ vv, W.heap[w1.heap.size]? = some (.cells #[vv] 34 (0, 0)) ∧ W.ownsRow w.heap.size 3 1 vv (takeIn L.gone (pre0.map fun p => (p.i, p.r))).length ((takeIn L.gone (pre0.map fun p => (p.i, p.r))).map (Value.int .i64)) ∧ ∀ x ∈ pre0, x.i < to) ∧ Below w.heap.size w W)
    (OwnFrom.and (Own.from (fun s X Y row hs hg hr => by
      obtain ⟨vv, a1, a2, a3, a4, a5⟩ := hs
      exact ⟨vv, (own_keeps hg hr a1).trans a1, (own_keeps hg hr a2).trans a2, ownsRow_own' hg hr a3, a4, Nat.le_trans a5 hg.size⟩) _) (ownFrom_below (Nat.le_refl _) (by omega)))
    (fun c => OwnFrom.and (Own.from (fun s X Y row hs hg hr => by
      obtain ⟨h0, pre0, x, h1, h2, vv, a1, a3, a4⟩ := hs
      exact ⟨h0, pre0, x, h1, h2, vv, (own_keeps hg hr a1).trans a1, ownsRow_own' hg hr a3, a4⟩) _) (ownFrom_below (Nat.le_refl _) (by omega)))
    ⟨⟨_, xv3, x3, ownsRow_low hrow3 (by omega), (fun x hx => by cases hx), by omega⟩, b3⟩
    (fun x A a' W => ∃ Bx, Below A.heap.size A W ∧ A.heap.size ≤ Bx ∧ W.heap[Bx]? = some (.cells #[.int .i64 x.r.site, .int .i64 x.r.seq, x.vd, .string x.r.key, .string x.r.val] 36 (0, 0)) ∧ a' = { tmps := #[.pointer (some ⟨m.p, 0, none⟩), .int .i64 to, undef, .pointer (some ⟨w.heap.size, 0, none⟩), .slice none 0 0, .pointer (some ⟨w1.heap.size, 0, none⟩), .int .i64 x.i, .pointer (some ⟨Bx, 0, none⟩), .pointer (some ⟨m.p, 0, none⟩), .pointer (some ⟨m.p, 0, none⟩), .pointer (some ⟨m.p, 12, none⟩), .slice ga L.gone.length gc, .slice va L.gone.length vcap, .pointer (some ⟨m.p, 0, none⟩), .pointer (some ⟨m.p, 0, none⟩), .pointer (some ⟨m.p, 0, none⟩), .pointer (some ⟨m.p, 11, none⟩), .int .i64 L.trim, .func (.func 189) #[] #[.pointer (some ⟨w1.heap.size + 1 + 1, 0, none⟩), .pointer (some ⟨w1.heap.size + 1, 0, none⟩)], .int .i64 x.i, .agg #[.int .i64 x.r.site, .int .i64 x.r.seq, x.vd, .string x.r.key, .string x.r.val], undef, undef, undef, undef, undef, undef, undef, undef, undef, undef], defers := [] })
    ?hAp ?assign ?body ?done ?stop
  case hE => exact fun x A W h => keepsFrom_below h.1
  case hAp =>
    rintro x A a' W l o o' ⟨Bx, h1, h6, h4, h5⟩ _ hAl hWl ho
    refine ⟨Bx, below_put h1, by simpa [World.putObj] using h6, ?_, h5⟩
    have hne : l ≠ Bx := by
      intro e
      rw [e, h4] at hWl
      cases hWl
      cases ho
    unfold World.putObj
    simp only [Array.getElem?_setIfInBounds]
    rw [if_neg hne]
    exact h4
  case assign =>
    clear x3 xv3 hrow3 y0 y1 hA I3
    rintro l pre ⟨xi, ⟨site, seq, dep, key, val⟩, vd⟩ A W K hI hE hlt hK
    have hE2 := hE.2.1
    have hE1 := hE.1
    dsimp only [encPl] at *
    obtain ⟨va', vc', rfl⟩ := ownsRow_slice hE2
    clear hE
    replace hK := hide hK
    obtain ⟨_, _, _, _, _, hz1⟩ := hI.1
    have hz2' := hE1.size
    have HE1 := hide hE1
    clear hE1 hI hE2
    gi_wp2
    exact hK.out _ _ ⟨W.heap.size, HE1.out.alloc HE1.out.size _, HE1.out.size, World.alloc_heap_new W _, rfl⟩ (keepsFrom_below (box_below W _)) (KeepsX.of_below (box_below W _) (by omega))
  case body =>
    clear x3 xv3 hrow3 y0 y1 hA I3
    rintro lp pre x A a' W ⟨⟨vv, a1, a2, a3, a4, a5⟩, hBA⟩ ⟨Bx, hAW, hBx, hbx, rfl⟩ hlt
    have z1 := keepB a1 hAW
    have z2 := keepB a2 hAW
    have z3 := own_below a3 hAW
    have hB := hBA.trans (hAW.mono hBA.size)
    obtain ⟨k0, k1, -, -, -, -, -, -, -, -⟩ := cells5 hbx
    have kv := cellsAt z1 0
    have kt := cellsAt z2 0
    have fv := frozenAt z1 0
    simp only [List.getElem?_toArray, List.getElem?_cons_zero] at kv kt
    obtain ⟨vva, vvc, rfl⟩ := ownsRow_slice z3
    have hlen64 := takeIn_length L.gone (by omega) (pre.map fun p => (p.i, p.r))
    have C := hide (withO_calls _ (takeIn L.gone (pre.map fun p => (p.i, p.r))) x.r.site x.r.seq W (IsNums.of_row z3) (by omega))
    have hsnoc := takeIn_snoc L.gone (pre.map fun p => (p.i, p.r)) (x.i, x.r)
    have Z1 := hide z1
    have Z2 := hide z2
    have Z3 := hide z3
    have HB := hide hB
    have hz3 := hAW.size
    by_cases hge : to ≤ x.i
    · clear a1 a2 a3 z1 z2 z3 hB hAW C
      gi_wp2
      exact ⟨keepsFrom_below (Below.refl _ _), ⟨rfl, pre, x, rfl, hge, _, Z1.out, Z3.out, a4⟩, HB.out⟩
    · clear a1 a2 a3 z1 z2 z3 hB hAW
      gi_wp2
      refine ⟨trivial, ?_⟩
      refine (CallsIn.inRound lp ((callsIn_wide (n := _)).2 C.out)).mono ?_
      rintro e w4 ⟨v', rfl, hown4, hb4⟩
      obtain ⟨va4, vc4, rfl⟩ := ownsRow_slice hown4
      have Z4 := keepB Z1.out hb4
      have Z5 := keepB Z2.out hb4
      have f4 := frozenAt Z4 0
      have k4 := cellsAt Z4 0
      simp only [List.getElem?_toArray, List.getElem?_cons_zero] at k4
      have HO := hide hown4
      have Hb4 := hide hb4
      have HZ4 := hide Z4
      have HZ5 := hide Z5
      have hsz4 := hb4.size
      clear hown4 hb4 C k0 k1 kv kt fv Z4 Z5
      gi_wp2
      have hoth : ∀ k, k ≠ w1.heap.size → (w4.setCell ⟨w1.heap.size, 0, none⟩ (.slice va4 (withL (takeIn L.gone (pre.map fun p => (p.i, p.r))) x.r.site x.r.seq).length vc4)).heap[k]? = w4.heap[k]? := fun k hk => Below.heap_setCell _ _ _ _ hk
      refine ⟨⟨by simp [World.setCell]; omega, fun k o h1 ho _ => (hoth k (by omega)).trans (keepB ho Hb4.out)⟩, ⟨by simp [World.setCell]; omega, fun k h1 h2 => (hoth k h2).trans (Hb4.out.block k (by omega))⟩, ⟨_, by simpa using setAt (j := 0) HZ4.out (.slice va4 (withL (takeIn L.gone (pre.map fun p => (p.i, p.r))) x.r.site x.r.seq).length vc4), (hoth _ (by omega)).trans HZ5.out, ?_, ?_, by simp [World.setCell]; omega⟩, (HB.out.trans (Hb4.out.mono HB.out.size)).setCell (p := ⟨w1.heap.size, 0, none⟩) (by simp; omega) _⟩
      · rw [List.map_append, List.map_cons, List.map_nil, hsnoc]
        exact ownsRow_low (ownsRow_of_heap HO.out fun k hk => hoth k (by have := (HO.out.lt k hk).1; omega)) (by have := HB.out.size; omega)
      · intro y hy
        rcases List.mem_append.1 hy with h | h
        · exact a4 y h
        · obtain rfl : y = x := by simpa using h
          omega
  case done =>
    clear x3 xv3 hrow3 y0 y1 hA I3
    rintro D ys W hD hys ⟨⟨vv, a1, a2, a3, a4, a5⟩, hB⟩ hK
    have heq := hide (vec_done hN h1 h2 hys a4)
    clear hys a2 a4
    obtain ⟨va5, vc5, rfl⟩ := ownsRow_slice a3
    have kv := cellsAt a1 0
    simp only [List.getElem?_toArray, List.getElem?_cons_zero] at kv
    have A3 := hide a3
    have HB := hide hB
    clear a1 a3 hB
    go_wp2_with fail
    refine ⟨by simp, .inl ⟨_, _, rfl, run_takeDeferred hK, ?_⟩⟩
    have hg := grownBy_putObj' W D (.deferred none)
    have hr : ∀ r, some D = some r → ∃ o : Obj, W.heap[r]? = some o ∧ o.isCells = false := fun r e => by cases e; exact ⟨_, hK, rfl⟩
    refine ⟨.slice va5 (takeIn L.gone (ys.map fun p => (p.i, p.r))).length vc5, by simp [results, Tryz.f80, go_sem], _, rfl, ?_, HB.out.trans (belowK_b (w := w) (Nat.le_refl _) W D _ _ (by have := HB.out.size; omega) hK rfl rfl)⟩
    unfold LogD.vecTo
    rw [← heq.out]
    exact ownsRow_own' hg hr A3.out
  case stop =>
    clear x3 xv3 hrow3 y0 y1 hA I3
    rintro D c pre W hD hsp ⟨⟨rfl, pre0, x, rfl, hge, vv, a1, a3, a4⟩, hB⟩ hK
    have heq := hide (vec_stop h1 hsp hge a4)
    clear hsp a4 hge
    obtain ⟨va5, vc5, rfl⟩ := ownsRow_slice a3
    have kv := cellsAt a1 0
    simp only [List.getElem?_toArray, List.getElem?_cons_zero] at kv
    have A3 := hide a3
    have HB := hide hB
    clear a1 a3 hB
    refine (wpIn_wide (n := 5)).2 ?_
    go_wp2_with fail
    refine ⟨by simp, .inl ⟨_, _, rfl, run_takeDeferred hK, ?_⟩⟩
    have hg := grownBy_putObj' W D (.deferred none)
    have hr : ∀ r, some D = some r → ∃ o : Obj, W.heap[r]? = some o ∧ o.isCells = false := fun r e => by cases e; exact ⟨_, hK, rfl⟩
    refine ⟨.slice va5 (takeIn L.gone (pre0.map fun p => (p.i, p.r))).length vc5, by simp [results, Tryz.f80, go_sem], _, rfl, ?_, HB.out.trans (belowK_b (w := w) (Nat.le_refl _) W D _ _ (by have := HB.out.size; omega) hK rfl rfl)⟩
    unfold LogD.vecTo
    rw [← heq.out]
    exact ownsRow_own' hg hr A3.out

set_option maxHeartbeats 1000000 in
theorem logVec_calls (B : Nat) (m : LogM) (L : LogD) (N : Nat) (w : World) (hd : IsLog w B m L) (hf : L.fm) (hu : L.down = false → L.up) (hN : L.Has L.trim N) :
    Calls Tryz.prog 35 #[.pointer (some ⟨m.p, 0, none⟩)] w fun e w' => ∃ v, e = .returned v ∧ w'.ownsRow w.heap.size 3 1 v (L.vecTo L.head).length ((L.vecTo L.head).map (Value.int .i64)) ∧ Below w.heap.size w w' := by
  obtain ⟨_, _, -, -, -, -, -, -, -, c13, -, -, -⟩ := hd.cells
  have h1 := hf.next1
  have C := hide (fun W (h : Below w.heap.size w W) => vector_calls B m L L.head N W (hd.keep h) hf hu hN hf.head0 hf.next0 (by have := hf.next0; omega))
  clear hd hf hu hN
  go_enter Tryz.func35, Tryz.ntmps35
  go_wp2_with fail
  refine (C.out w (Below.refl _ w)).mono ?_
  rintro e w2 ⟨v, rfl, h2, h3⟩
  obtain ⟨a, c, rfl⟩ := ownsRow_slice h2
  go_wp2_with fail
  go_ret
  exact ⟨_, rfl, h2, h3⟩

end Go.Proofs.YtjbjjfndkpcciaaGreatDoor

/- A log's records in a list; All. Own work; no statement. -/
set_option linter.unusedSimpArgs false
set_option linter.unusedVariables false
namespace Go.Proofs.YtjbjjfndkpcciaaGreatDoor
open Go.RowKit Go.Shelf Go.Sort

attribute [local go_sem] Oper.semAt_some

/-- Records in a row of one's own, their numbers too. -/
def OwnRecs (W : World) (B : Nat) (v : Value) (pl : List Pl) : Prop := W.ownsRow B 36 5 v pl.length (pl.flatMap Pl.cells5) ∧ ∀ p ∈ pl, W.ownsRow B 3 1 p.vd p.r.dep.length (p.r.dep.map (Value.int .i64))
theorem OwnRecs.keep {W W' : World} {B : Nat} {v : Value} {pl : List Pl} (h : OwnRecs W B v pl) (hk : ∀ (k : Nat) (c : Array Value) (t : TypeId) (f : Nat × Nat), W.heap[k]? = some (.cells c t f) → W'.heap[k]? = W.heap[k]?) : OwnRecs W' B v pl :=
  ⟨row_keep hk h.1, fun p hp => row_keep hk (h.2 p hp)⟩
theorem OwnRecs.below {W W' : World} {B : Nat} {v : Value} {pl : List Pl} (h : OwnRecs W B v pl) (hb : Below W.heap.size W W') : OwnRecs W' B v pl := h.keep fun k _ _ _ e => hb.block k (ltAt e)
theorem OwnRecs.lower {W : World} {B B' : Nat} {v : Value} {pl : List Pl} (h : OwnRecs W B v pl) (hB : B' ≤ B) : OwnRecs W B' v pl := ⟨ownsRow_low h.1 hB, fun p hp => ownsRow_low (h.2 p hp) hB⟩

set_option maxRecDepth 100000 in
set_option maxHeartbeats 4000000 in
theorem list_calls (B : Nat) (m : LogM) (L : LogD) (fr to : Int) (N : Nat) (w : World) (hd : IsLog w B m L) (hf : L.fm) (hu : L.down = false → L.up) (hN : L.Has fr N) (h1 : fr ≤ to) (h2 : to ≤ L.next) (h3 : to ≤ 9223372036854775807) (hNs : N ≤ 1048576) :
    Calls Tryz.prog 77 #[.pointer (some ⟨m.p, 0, none⟩), .int .i64 fr, .int .i64 to] w fun e w' => ∃ v pl, e = .returned v ∧ OwnRecs w' w.heap.size v pl ∧ pl.map (fun p => (p.i, p.r)) = L.recs fr (to - fr).toNat ∧ Below w.heap.size w w' := by
  obtain ⟨j0, ji, jz0, jz1, jz2⟩ := info_parts Tryz.info36
  have Hd := hide hd
  have hlt := hd.lt
  clear hd
  obtain ⟨w1, hw1⟩ : ∃ w1, (w.alloc (.cells #[.int .i64 to] 3)).alloc (.cells #[.slice none 0 0] 60) = w1 := ⟨_, rfl⟩
  have b1 : Below w.heap.size w w1 := by rw [← hw1]; exact ((Below.refl _ w).alloc (Nat.le_refl _) _).alloc (by simp) _
  have s1 : w1.heap.size = w.heap.size + 2 := by rw [← hw1]; simp
  have x0 : w1.heap[w.heap.size]? = some (.cells #[.int .i64 to] 3 (0, 0)) := by rw [← hw1]; exact (Below.heap_alloc _ _ _ (by simp)).trans (World.alloc_heap_new w _)
  have x1 : w1.heap[w.heap.size + 1]? = some (.cells #[.slice none 0 0] 60 (0, 0)) := by
    rw [← hw1]
    have := World.alloc_heap_new (w.alloc (.cells #[.int .i64 to] 3)) (.cells #[.slice none 0 0] 60)
    rwa [World.size_alloc] at this
  have HW := hide hw1
  clear hw1
  refine (callsIn_wide (n := 5)).1 ?_
  refine callsIn_of_wp_marks Tryz.func77 rfl trivial ?_ rfl
  simp only [Tryz.ntmps77, List.size_toArray, List.length_cons, List.length_nil, Nat.reduceAdd, Nat.reduceSub, Array.replicate_succ, Array.replicate_zero, List.push_toArray, List.append_toArray, List.nil_append, List.cons_append]
  refine wpIn_wide.2 ?_
  go_wp2_with fail
  go_step3
  go_wp2_with fail
  rw [HW.out]
  go_step3
  go_wp2_with fail
  refine (from_calls m.p fr w1).mono ?_
  rintro e w3 ⟨rfl, y1, y0, b3', s3⟩
  have b3 := b1.trans (b3'.mono b1.size)
  have x03 := keepB x0 b3'
  have x13 := keepB x1 b3'
  have I3 := Hd.out.keep b3
  rw [s1] at y1 y0 s3 ⊢
  simp only [Nat.add_assoc, Nat.reduceAdd] at y1 y0 s3 ⊢
  clear x0 x1 b3' HW
  go_wp2_with fail
  have hon : ∀ k, m.on k → k < w.heap.size := fun k hk => (Hd.out.on hk).2
  have hA : IsFrom w3 B (w.heap.size + 3) (w.heap.size + 2) m L fr := ⟨y1, y0, I3⟩
  refine (wpIn_wide (n := 5)).1 ?_
  refine range_lawR (by decide) (gf := 189) (lb := #[.pointer (some ⟨w.heap.size + 3, 0, none⟩), .pointer (some ⟨w.heap.size + 2, 0, none⟩)]) rfl (enters_of Tryz.func189 (by kernel_rfl) rfl)
    (from_stops 4 (by decide) (fun k => k = w.heap.size + 1) _ _ B m L fr N hf hu hN w3 w3 hA (Below.refl _ _) (firm_one x13 ⟨by decide, by decide, by decide⟩) (fun k hk e => by have := hon k hk; omega) (by omega) (by omega)) keepsX_t (keepsX_b (Nat.le_refl _)) ?hE (fun _ => rfl)
    (fun pre W => (∃ vv, W.heap[w.heap.size + 1]? = some (.cells #[vv] 60 (0, 0)) ∧ W.heap[w.heap.size]? = some (.cells #[.int .i64 to] 3 (0, 0)) ∧ OwnRecs W (w.heap.size + 4) vv pre ∧ (∀ x ∈ pre, x.i < to) ∧ w.heap.size + 4 ≤ W.heap.size) ∧ Below w.heap.size w W)
    (fun c pre W => (c = .exit 0 ∧ ∃ pre0 x, pre = pre0 ++ [x] ∧ to ≤ x.i ∧ ∃ vv, W.heap[w.heap.size + 1]? = some (.cells #[vv] 60 (0, 0)) ∧ OwnRecs W (w.heap.size + 4) vv pre0 ∧ ∀ x ∈ pre0, x.i < to) ∧ Below w.heap.size w W)
    (OwnFrom.and (Own.from (fun s X Y row hs hg hr => by
      obtain ⟨vv, a1, a2, a3, a4, a5⟩ := hs
      exact ⟨vv, (own_keeps hg hr a1).trans a1, (own_keeps hg hr a2).trans a2, a3.keep (fun k c t f e => own_keeps hg hr e), a4, Nat.le_trans a5 hg.size⟩) _) (ownFrom_below (Nat.le_refl _) (by omega)))
    (fun c => OwnFrom.and (Own.from (fun s X Y row hs hg hr => by
      obtain ⟨h0, pre0, x, h1, h2, vv, a1, a3, a4⟩ := hs
      exact ⟨h0, pre0, x, h1, h2, vv, (own_keeps hg hr a1).trans a1, a3.keep (fun k c t f e => own_keeps hg hr e), a4⟩) _) (ownFrom_below (Nat.le_refl _) (by omega)))
    ⟨⟨_, x13, x03, ⟨World.ownsRow_nil _ _ _ _, fun p hp => by cases hp⟩, (fun x hx => by cases hx), by omega⟩, b3⟩
    (fun x A a' W => ∃ Bx va vc, Below A.heap.size A W ∧ x.vd = .slice va x.r.dep.length vc ∧ A.heap.size ≤ Bx ∧ W.ownsRow A.heap.size 3 1 x.vd x.r.dep.length (x.r.dep.map (Value.int .i64)) ∧ W.heap[Bx]? = some (.cells #[.int .i64 x.r.site, .int .i64 x.r.seq, x.vd, .string x.r.key, .string x.r.val] 36 (0, 0)) ∧ a' = { tmps := #[.pointer (some ⟨m.p, 0, none⟩), .int .i64 fr, .int .i64 to, undef, undef, .pointer (some ⟨w.heap.size, 0, none⟩), .slice none 0 0, .pointer (some ⟨w.heap.size + 1, 0, none⟩), .int .i64 x.i, .pointer (some ⟨Bx, 0, none⟩), .pointer (some ⟨m.p, 0, none⟩), .int .i64 fr, .func (.func 189) #[] #[.pointer (some ⟨w.heap.size + 3, 0, none⟩), .pointer (some ⟨w.heap.size + 2, 0, none⟩)], .int .i64 x.i, .agg #[.int .i64 x.r.site, .int .i64 x.r.seq, x.vd, .string x.r.key, .string x.r.val], undef, undef, undef, undef, undef, undef, undef, undef], defers := [] })
    ?hAp ?assign ?body ?done ?stop
  case hE => exact fun x A W h => keepsFrom_below h.1
  case hAp =>
    rintro x A a' W l o o' ⟨Bx, va, vc, h1, h2, h3, h6, h4, h5⟩ _ hAl hWl ho
    refine ⟨Bx, va, vc, below_put h1, h2, by simpa [World.putObj] using h3, ?_, ?_, h5⟩
    · rw [show (A.putObj l o').heap.size = A.heap.size by simp [World.putObj]]
      refine row_keep (fun k c t f e => ?_) h6
      have hne : l ≠ k := by
        rintro rfl
        rw [e] at hWl
        cases hWl
        cases ho
      unfold World.putObj
      simp only [Array.getElem?_setIfInBounds]
      rw [if_neg hne]
    have hne : l ≠ Bx := by
      intro e
      rw [e, h4] at hWl
      cases hWl
      cases ho
    unfold World.putObj
    simp only [Array.getElem?_setIfInBounds]
    rw [if_neg hne]
    exact h4
  case assign =>
    clear x03 x13 y0 y1 hA I3
    rintro l pre ⟨xi, ⟨site, seq, dep, key, val⟩, vd⟩ A W K hI hE hlt hK
    have hE2 := hE.2.1
    have hE1 := hE.1
    dsimp only [encPl] at *
    obtain ⟨va', vc', rfl⟩ := ownsRow_slice hE2
    have HE2 := hide hE2
    clear hE
    replace hK := hide hK
    obtain ⟨_, _, _, _, _, hz1⟩ := hI.1
    have hz2' := hE1.size
    have HE1 := hide hE1
    clear hE1 hI hE2
    gi_wp2
    exact hK.out _ _ ⟨W.heap.size, va', vc', HE1.out.alloc HE1.out.size _, rfl, HE1.out.size, World.ownsRow.alloc HE2.out _, World.alloc_heap_new W _, rfl⟩ (keepsFrom_below (box_below W _)) (KeepsX.of_below (box_below W _) (by omega))
  case body =>
    clear x03 x13 y0 y1 hA I3
    rintro lp pre x A a' W ⟨⟨vv, a1, a2, a3, a4, a5⟩, hBA⟩ ⟨Bx, va, vc, hAW, hvd, hBx, hxr, hbx, rfl⟩ hlt
    have z1 := keepB a1 hAW
    have z2 := keepB a2 hAW
    have z3 := a3.below hAW
    have hB := hBA.trans (hAW.mono hBA.size)
    have hvd3 : ∀ u ∈ [Value.int .i64 x.r.site, .int .i64 x.r.seq, .slice va x.r.dep.length vc, .string x.r.key, .string x.r.val], u.oneCell' = true := by
      have := five_one hvd
      unfold Pl.cells5 at this
      rwa [hvd] at this
    have hc5 := hide (show x.cells5 = [Value.int .i64 x.r.site, .int .i64 x.r.seq, .slice va x.r.dep.length vc, .string x.r.key, .string x.r.val] by unfold Pl.cells5; rw [hvd])
    have Hvd := hide hvd
    have hbxl := ltAt hbx
    rw [hvd] at hbx ⊢
    obtain ⟨k0, k1, k2, k3, k4, -, -, -, -, -⟩ := cells5 hbx
    have kv := cellsAt z1 0
    have kt := cellsAt z2 0
    have fv := frozenAt z1 0
    simp only [List.getElem?_toArray, List.getElem?_cons_zero] at kv kt
    obtain ⟨pb, cb, rfl⟩ := ownsRow_slice z3.1
    have hz3 := hAW.size
    have Z1 := hide z1
    have Z2 := hide z2
    have Z3 := hide z3
    have HB := hide hB
    have HXR := hide hxr
    by_cases hge : to ≤ x.i
    · clear a1 a2 a3 z1 z2 z3 hB hAW hxr hvd
      gi_wp2
      exact ⟨keepsFrom_below (Below.refl _ _), ⟨rfl, pre, x, rfl, hge, _, Z1.out, Z3.out, a4⟩, HB.out⟩
    · clear a1 a2 a3 z1 z2 z3 hB hAW hxr hvd
      gi_wp2_with (gi_at_builtin; refine wpListIn_append_own_at _ rfl (.tmp 18) _ 60 rfl (w.heap.size + 4) 36 j0 _ 5 72 Tryz.underlying60 ji jz0 jz1 jz2 rfl (by decide) _ _ _ rfl (World.ownsRow.alloc Z3.out.1 _) ⟨_, 0, none⟩ 1 1 [.int .i64 x.r.site, .int .i64 x.r.seq, .slice va x.r.dep.length vc, .string x.r.key, .string x.r.val] rfl rfl (cells_new (by simp)) (by intro u hu; exact hvd3 u hu) (by unfold maxLen; omega) (by omega) (by simp; omega) ?_; intro v2 w2 hown2 hgrow2 _ hat2; obtain ⟨g2, cap2, rfl⟩ := ownsRow_succ hown2; obtain ⟨bx2, bx3, rw3, kk3, o3, l3⟩ := box_app (T := 60) Z1.out Z3.out.1 (by omega) (by omega) hown2 hgrow2; have e1 := bx2.cell; have f2 := bx2.frozen; clear hgrow2 hown2 hat2)
      have hz6 := (HB.out).size
      refine ⟨kk3.from _, ⟨kk3.size, fun k h1 h2 => o3 k (by omega) h2 fun e => by have := (Z3.out.1.lt k e).1; omega⟩, ⟨_, bx3, (o3 _ (by omega) (by omega) fun e => by have := (Z3.out.1.lt _ e).1; omega).trans Z2.out, ⟨?_, ?_⟩, ?_, by have := kk3.size; omega⟩, l3 w.heap.size w (by omega) HB.out⟩
      · rw [List.length_append, List.flatMap_append]
        simp only [List.flatMap_cons, List.flatMap_nil, List.append_nil]
        rw [hc5.out]
        exact rw3
      · intro p hp
        have hrow : W.ownsRow (w.heap.size + 4) 3 1 p.vd p.r.dep.length (p.r.dep.map (Value.int .i64)) := by
          rcases List.mem_append.1 hp with h | h
          · exact Z3.out.2 p h
          · obtain rfl : p = x := by simpa using h
            exact ownsRow_low HXR.out (by omega)
        exact ownsRow_of_heap hrow fun k hk => o3 k (hrow.lt k hk).2 (by have := (hrow.lt k hk).1; omega) fun e => rows_apart (by decide) hrow Z3.out.1 k hk e
      · intro y hy
        rcases List.mem_append.1 hy with h | h
        · exact a4 y h
        · obtain rfl : y = x := by simpa using h
          omega
  case done =>
    clear x03 x13 y0 y1 hA I3
    rintro D ys W hD hys ⟨⟨vv, a1, a2, a3, a4, a5⟩, hB⟩ hK
    have heq := hide (vec_done hN h1 h2 hys a4)
    clear hys a2 a4
    obtain ⟨va5, vc5, rfl⟩ := ownsRow_slice a3.1
    have kv := cellsAt a1 0
    simp only [List.getElem?_toArray, List.getElem?_cons_zero] at kv
    have A3 := hide a3
    have HB := hide hB
    clear a1 a3 hB
    go_wp2_with fail
    refine ⟨by simp, .inl ⟨_, _, rfl, run_takeDeferred hK, ?_⟩⟩
    have hg := grownBy_putObj' W D (.deferred none)
    have hr : ∀ r, some D = some r → ∃ o : Obj, W.heap[r]? = some o ∧ o.isCells = false := fun r e => by cases e; exact ⟨_, hK, rfl⟩
    exact ⟨.slice va5 ys.length vc5, by simp [results, Tryz.f77, go_sem], _, ys, rfl, (A3.out.keep (fun k c t f e => own_keeps hg hr e)).lower (by omega), heq.out, HB.out.trans (belowK_b (w := w) (Nat.le_refl _) W D _ _ (by have := HB.out.size; omega) hK rfl rfl)⟩
  case stop =>
    clear x03 x13 y0 y1 hA I3
    rintro D c pre W hD hsp ⟨⟨rfl, pre0, x, rfl, hge, vv, a1, a3, a4⟩, hB⟩ hK
    have heq := hide (vec_stop h1 hsp hge a4)
    clear hsp a4 hge
    obtain ⟨va5, vc5, rfl⟩ := ownsRow_slice a3.1
    have kv := cellsAt a1 0
    simp only [List.getElem?_toArray, List.getElem?_cons_zero] at kv
    have A3 := hide a3
    have HB := hide hB
    clear a1 a3 hB
    refine (wpIn_wide (n := 5)).2 ?_
    go_wp2_with fail
    refine ⟨by simp, .inl ⟨_, _, rfl, run_takeDeferred hK, ?_⟩⟩
    have hg := grownBy_putObj' W D (.deferred none)
    have hr : ∀ r, some D = some r → ∃ o : Obj, W.heap[r]? = some o ∧ o.isCells = false := fun r e => by cases e; exact ⟨_, hK, rfl⟩
    exact ⟨.slice va5 pre0.length vc5, by simp [results, Tryz.f77, go_sem], _, pre0, rfl, (A3.out.keep (fun k c t f e => own_keeps hg hr e)).lower (by omega), heq.out, HB.out.trans (belowK_b (w := w) (Nat.le_refl _) W D _ _ (by have := HB.out.size; omega) hK rfl rfl)⟩

end Go.Proofs.YtjbjjfndkpcciaaGreatDoor

/- A region whose head has two operations that may come in either order. Own work; no statement. -/
set_option linter.unusedSimpArgs false
set_option linter.unusedVariables false
namespace Go.Proofs.YtjbjjfndkpcciaaGreatDoor
open Go.RowKit

section
variable {P : Program} {ops : Array Oper} {Q : Exit → Act → World → Prop} {S : World → Prop} {m g : Nat}
/-- One of two may come up. -/
theorem HeadT.two (i j : Nat) {f : Nat} {d : Array Bool} {a : Act} {w : World} (hr : Region.ready .any ops d = [i, j]) (hi : wpOp P ops Q i (fun a' w' => S w' ∧ HeadT P ops Q S m g f (d.setIfInBounds i true) a' w') a w)
    (hj : wpOp P ops Q j (fun a' w' => S w' ∧ HeadT P ops Q S m g f (d.setIfInBounds j true) a' w') a w) : HeadT P ops Q S m g (f + 1) d a w :=
  ⟨by rw [hr]; simp, fun k hk => by
    rw [hr] at hk
    rcases List.mem_cons.1 hk with rfl | hk
    · exact hi
    · obtain rfl : k = j := (by simpa using hk)
      exact hj⟩
end

end Go.Proofs.YtjbjjfndkpcciaaGreatDoor

/- A log's All, and the sequence that it answers. Own work; no statement. -/
set_option linter.unusedSimpArgs false
set_option linter.unusedVariables false
namespace Go.Proofs.YtjbjjfndkpcciaaGreatDoor
open Go.RowKit Go.Shelf Go.Sort

attribute [local go_sem] Oper.semAt_some

/-- What All's sequence holds: its records in a row, the first position. -/
structure IsAllL (w : World) (b c : Nat) (v : Value) (pl : List Pl) (start : Int) : Prop where
  box : w.heap[b]? = some (.cells #[v] 60 (0, 0))
  at_ : w.heap[c]? = some (.cells #[.int .i64 start] 3 (0, 0))
  recs : OwnRecs w 0 v pl
theorem IsAllL.span {w w' : World} {b c : Nat} {v : Value} {pl : List Pl} {start : Int} (h : IsAllL w b c v pl start) (hk : ∀ k, k < w.heap.size → w'.heap[k]? = w.heap[k]?) : IsAllL w' b c v pl start :=
  ⟨(hk b (ltAt h.box)).trans h.box, (hk c (ltAt h.at_)).trans h.at_, h.recs.keep fun k c t f e => hk k (ltAt e)⟩

theorem OwnRecs.set {W : World} {B b : Nat} {v x : Value} {pl : List Pl} {c : Array Value} {f : Nat × Nat} (h : OwnRecs W B v pl) (hb : W.heap[b]? = some (.cells c 60 f)) : OwnRecs (W.setCell ⟨b, 0, none⟩ x) B v pl :=
  ⟨ownsRow_of_heap h.1 fun k hk => Below.heap_setCell _ _ _ _ fun e => row_not h.1 hb (by decide) (by rw [hk]; exact congrArg some e.symm), fun p hp => ownsRow_of_heap (h.2 p hp) fun k hk => Below.heap_setCell _ _ _ _ fun e => row_not (h.2 p hp) hb (by decide) (by rw [hk]; exact congrArg some e.symm)⟩

theorem flatC5 : ∀ (pl : List Pl) (k j : Nat) (h : k < pl.length), j < 5 → (pl.flatMap Pl.cells5)[k * 5 + j]? = (pl[k]).cells5[j]? := flat5

set_option maxHeartbeats 2000000 in
set_option maxRecDepth 100000 in
theorem logAll_calls (B : Nat) (m : LogM) (L : LogD) (fr : Int) (N : Nat) (w : World) (hd : IsLog w B m L) (hf : L.fm) (hu : L.down = false → L.up) (h0 : fr ≤ L.trim) (hN : L.Has L.trim N) (hNs : N ≤ 1048576) (hl : -9223372036854775808 ≤ fr) :
    Calls Tryz.prog 31 #[.pointer (some ⟨m.p, 0, none⟩), .int .i64 fr] w fun e w' => ∃ b c v pl, e = .returned (.func (.func 78) #[] #[.pointer (some ⟨b, 0, none⟩), .pointer (some ⟨c, 0, none⟩)]) ∧ IsAllL w' b c v pl L.trim ∧ pl.map (fun p => (p.i, p.r)) = L.recs L.trim (L.head - L.trim).toNat ∧ Below w.heap.size w w' := by
  have hmf : ∀ (fn : Fn) (first cap : Array Value) (w : World), (Instr.makeFunc fn first cap).run Tryz.prog w = .ok (.func fn first cap) w := fun _ _ _ _ => rfl
  obtain ⟨_, _, -, -, -, -, -, c11, -, c13, -, -, -⟩ := hd.cells
  have h1 := hf.next1
  have h2 := hf.head0
  have h3 := hf.next0
  have hlt := hd.lt
  have C := hide (fun W (h : Below w.heap.size w W) => list_calls B m L L.trim L.head N W (hd.keep h) hf hu hN h2 h3 (by omega) hNs)
  have Hd := hide hd
  clear hd hf hu hN
  have hmax : max fr L.trim = L.trim := by omega
  go_enter Tryz.func31, Tryz.ntmps31
  go_wp2_with fail
  have bA := box_below w (.cells #[.int .i64 L.trim] 3)
  obtain ⟨W1, hW1⟩ : ∃ W1, (w.alloc (.cells #[.int .i64 L.trim] 3)).drew = W1 := ⟨_, rfl⟩
  have b1 : Below w.heap.size w W1 := by rw [← hW1]; exact bA.drew
  have x1 : W1.heap[w.heap.size]? = some (.cells #[.int .i64 L.trim] 3 (0, 0)) := by rw [← hW1]; exact World.alloc_heap_new w _
  have s1 : W1.heap.size = w.heap.size + 1 := by rw [← hW1]; simp [World.drew]
  have hS : ∀ W, Below W1.heap.size W1 W → W.cell? ⟨w.heap.size, 0, none⟩ = some (.int .i64 L.trim) ∧ W.cell? ⟨m.p, 13, none⟩ = some (.int .i64 L.head) := fun W hW => by
    refine ⟨by simpa using cellsAt (keepB x1 hW) 0, ?_⟩
    obtain ⟨_, _, -, -, -, -, -, -, -, k13, -, -, -⟩ := (Hd.out.keep (b1.trans (hW.mono b1.size))).cells
    exact k13
  have HS := hide hS
  have s0 := hS W1 (Below.refl _ _)
  clear hS
  refine region_headT 8 (fun W => W.cell? ⟨w.heap.size, 0, none⟩ = some (.int .i64 L.trim) ∧ W.cell? ⟨m.p, 13, none⟩ = some (.int .i64 L.head)) (by kernel_rfl) (by decide) ?_
  rw [hW1]
  refine HeadT.take 0 (.pointer (some ⟨m.p, 0, none⟩)) rfl (by kernel_rfl) (.inl ⟨rfl, fun w2 ⟨t0, t1⟩ => by go_simp⟩) s0 ?_
  refine HeadT.take 1 (.int .i64 L.trim) rfl (by kernel_rfl) (.inl ⟨rfl, fun w2 ⟨t0, t1⟩ => by go_simp⟩) s0 ?_
  refine HeadT.take 2 (.pointer (some ⟨m.p, 0, none⟩)) rfl (by kernel_rfl) (.inl ⟨rfl, fun w2 ⟨t0, t1⟩ => by go_simp⟩) s0 ?_
  refine HeadT.take 3 (.pointer (some ⟨m.p, 0, none⟩)) rfl (by kernel_rfl) (.inl ⟨rfl, fun w2 ⟨t0, t1⟩ => by go_simp⟩) s0 ?_
  refine HeadT.take 4 (.pointer (some ⟨m.p, 13, none⟩)) rfl (by kernel_rfl) (.inl ⟨rfl, fun w2 ⟨t0, t1⟩ => by go_simp⟩) s0 ?_
  refine HeadT.take 5 (.int .i64 L.head) rfl (by kernel_rfl) (.inl ⟨rfl, fun w2 ⟨t0, t1⟩ => by go_simp⟩) s0 ?_
  refine HeadT.two 6 7 (by kernel_rfl) ?_ ?_
  · refine wpOp_call rfl rfl 77 #[.pointer (some ⟨m.p, 0, none⟩), .int .i64 L.trim, .int .i64 L.head] (by go_simp) (C.out W1 b1) ?_
    rintro e W2 ⟨v, pl, rfl, hO, hpl, hb2⟩
    obtain ⟨va, vc, rfl⟩ := ownsRow_slice hO.1
    refine ⟨_, rfl, HS.out W2 hb2, ?_⟩
    refine HeadT.only 7 (by kernel_rfl) ?_
    obtain ⟨W3, hW3⟩ : ∃ W3, W2.alloc (.cells #[.slice none 0 0] 60) = W3 := ⟨_, rfl⟩
    have hb3 : Below W2.heap.size W2 W3 := by rw [← hW3]; exact box_below W2 _
    have x3 : W3.heap[W2.heap.size]? = some (.cells #[.slice none 0 0] 60 (0, 0)) := by rw [← hW3]; exact World.alloc_heap_new W2 _
    refine wpOp_val rfl rfl (v := .pointer (some ⟨W2.heap.size, 0, none⟩)) (w' := W3) (by rw [← hW3]; go_simp) ⟨HS.out W3 (hb2.trans (hb3.mono hb2.size)), ?_⟩
    refine HeadT.tail rfl (by kernel_rfl) ?_
    simp only [List.drop_succ_cons, List.drop_zero]
    have k3 := cellsAt x3 0
    have f3 := frozenAt x3 0
    simp only [List.getElem?_toArray, List.getElem?_cons_zero] at k3
    have hs2 := hb2.size
    have X1 := hide (keepB (keepB x1 hb2) hb3)
    have X3 := hide x3
    have HO := hide (hO.below hb3)
    have HB := hide (b1.trans ((hb2.trans (hb3.mono hb2.size)).mono b1.size))
    have Hpl := hide hpl
    clear hO hb2 hb3 hW3 x3 x1 s0 hpl C c11 c13 HS
    go_wp2_with fail
    try simp only [noPanic]
    go_wp2_with fail
    go_ret
    exact ⟨W2.heap.size, w.heap.size, .slice va pl.length vc, pl, rfl, ⟨by simpa using setAt (j := 0) X3.out (.slice va pl.length vc), (Below.heap_setCell _ _ _ _ (show w.heap.size ≠ W2.heap.size by omega)).trans X1.out, (HO.out.set X3.out).lower (Nat.zero_le _)⟩, Hpl.out, HB.out.setCell (p := ⟨W2.heap.size, 0, none⟩) (by simp; omega) _⟩
  · have S1 := hide s1
    clear s1
    obtain ⟨W2, hW2⟩ : ∃ W2, W1.alloc (.cells #[.slice none 0 0] 60) = W2 := ⟨_, rfl⟩
    have hb2 : Below W1.heap.size W1 W2 := by rw [← hW2]; exact box_below W1 _
    have x2 : W2.heap[W1.heap.size]? = some (.cells #[.slice none 0 0] 60 (0, 0)) := by rw [← hW2]; exact World.alloc_heap_new W1 _
    refine wpOp_val rfl rfl (v := .pointer (some ⟨W1.heap.size, 0, none⟩)) (w' := W2) (by rw [← hW2]; go_simp) ⟨HS.out W2 hb2, ?_⟩
    refine HeadT.only 6 (by kernel_rfl) ?_
    refine wpOp_call rfl rfl 77 #[.pointer (some ⟨m.p, 0, none⟩), .int .i64 L.trim, .int .i64 L.head] (by go_simp) (C.out W2 (b1.trans (hb2.mono b1.size))) ?_
    rintro e W3 ⟨v, pl, rfl, hO, hpl, hb3⟩
    obtain ⟨va, vc, rfl⟩ := ownsRow_slice hO.1
    refine ⟨_, rfl, HS.out W3 (hb2.trans (hb3.mono hb2.size)), ?_⟩
    refine HeadT.tail rfl (by kernel_rfl) ?_
    simp only [List.drop_succ_cons, List.drop_zero]
    have x3 := keepB x2 hb3
    have k3 := cellsAt x3 0
    have f3 := frozenAt x3 0
    simp only [List.getElem?_toArray, List.getElem?_cons_zero] at k3
    have hs2 := hb2.size
    have X1 := hide (keepB (keepB x1 hb2) hb3)
    have X3 := hide x3
    have HO := hide hO
    have HB := hide (b1.trans ((hb2.trans (hb3.mono hb2.size)).mono b1.size))
    have Hpl := hide hpl
    clear hO hb2 hb3 hW2 x3 x2 x1 s0 hpl C c11 c13 HS
    go_wp2_with fail
    try simp only [noPanic]
    go_wp2_with fail
    go_ret
    exact ⟨W1.heap.size, w.heap.size, .slice va pl.length vc, pl, rfl, ⟨by simpa using setAt (j := 0) X3.out (.slice va pl.length vc), (Below.heap_setCell _ _ _ _ (show w.heap.size ≠ W1.heap.size by have := S1.out; omega)).trans X1.out, (HO.out.set X3.out).lower (Nat.zero_le _)⟩, Hpl.out, HB.out.setCell (p := ⟨W1.heap.size, 0, none⟩) (by have := S1.out; simp; omega) _⟩

set_option maxRecDepth 100000 in
set_option maxHeartbeats 4000000 in
theorem all1L_in (n : Nat) (hn : 1 ≤ n) (lp b c hi : Nat) (v : Value) (pl : List Pl) (start : Int) (hlen : pl.length ≤ 1048576) (h0 : 0 ≤ start) (h1 : start ≤ 2147483648) (hat : ∀ k (h : k < pl.length), pl[k].i = start + (k : Int)) (hd : ∀ p ∈ pl, p.r.dep.length ≤ 17592186044416) (J Jx : List Pl → World → Prop)
    (hY : ∀ pre x A W, J pre A → GivesPl x A W → pre.length < pl.length → YieldAt Fence.wide (n - 1) Tryz.prog lp (encPl x) W fun e W' =>
      (e = .returned (.bool true) ∧ J (pre ++ [x]) W' ∧ KeepsSpan 0 hi W W') ∨ (e = .returned (.bool false) ∧ Jx (pre ++ [x]) W'))
    (W : World) (hhi : hi ≤ W.heap.size) (hpos : 0 < hi) (hbl : ∀ W', KeepsSpan 0 hi W W' → IsAllL W' b c v pl start) (hJ : J [] W) :
    CallsIn Fence.wide n Tryz.prog 78 #[.func (.yield lp) #[] #[], .pointer (some ⟨b, 0, none⟩), .pointer (some ⟨c, 0, none⟩)] W fun e W' => (∃ v, e = .returned v) ∧
      ((∃ ys, ys.map (fun p => (p.i, p.r)) = pl.map (fun p => (p.i, p.r)) ∧ J ys W') ∨ (∃ pre, pre.map (fun p => (p.i, p.r)) <+: pl.map (fun p => (p.i, p.r)) ∧ Jx pre W')) := by
  refine callsIn_of_wp Tryz.func78 rfl trivial ?_ rfl
  simp only [Tryz.ntmps78, List.size_toArray, List.length_cons, List.length_nil, Nat.reduceAdd, Nat.reduceSub, Array.replicate_succ, Array.replicate_zero, List.push_toArray, List.append_toArray, List.nil_append, List.cons_append]
  have hA := hbl W (fun _ _ _ => rfl)
  obtain ⟨va, vcap, rfl⟩ := ownsRow_slice hA.recs.1
  have HY := hide hY
  have Hbl := hide hbl
  have Hd := hide hd
  have Hat := hide hat
  have hbc := cellsAt hA.box 0
  simp only [List.getElem?_toArray, List.getElem?_cons_zero] at hbc
  clear hY hbl hA hd hat
  refine wpIn_scope_straight ?_
  gi_wp2
  refine wpIn_label ?_
  gi_wp2
  clear hbc
  gi_loopw [8] (fun i wr => ∃ (k : Nat) (pre : List Pl), k ≤ pl.length ∧ i = .int .i64 (k : Int) ∧ pre.map (fun p => (p.i, p.r)) = (pl.take k).map (fun p => (p.i, p.r)) ∧ J pre wr ∧ KeepsSpan 0 hi W wr) (fun i _ => pl.length - (intOf i).toNat)
  case atStart => exact ⟨0, [], Nat.zero_le _, rfl, rfl, hJ, fun _ _ _ => rfl⟩
  case round =>
    obtain ⟨k, pre, hk, rfl, hpre, hJs, hks⟩ := hrel
    have hsz := hks.size hhi hpos
    by_cases hlt : k < pl.length
    · have hltI : (k : Int) < (pl.length : Int) := by omega
      have hfr := Hbl.out wr hks
      have cs := cellsAt hfr.at_ 0
      simp only [List.getElem?_toArray, List.getElem?_cons_zero] at cs
      have hplen : pre.length = k := by have := congrArg List.length hpre; simpa [Nat.min_eq_left hk] using this
      have hmem := List.getElem_mem hlt
      have hdl := Hd.out _ hmem
      have hai := Hat.out k hlt
      have hrow := hfr.recs.2 _ hmem
      have hfl := fun j hj => flatC5 pl k j hlt hj
      have htk2 : (pl.take (k + 1)).map (fun p => (p.i, p.r)) = (pl.take k).map (fun p => (p.i, p.r)) ++ [((pl[k]).i, (pl[k]).r)] := by rw [List.take_succ_eq_append_getElem hlt, List.map_append]; rfl
      rcases hfr.recs.1.2 with ⟨e1, e2⟩ | ⟨g, cap', cur, e1, hgb, hg, hnc, hcm, hcs, htk⟩
      · omega
      · obtain ⟨rfl, rfl⟩ : va = some ⟨g, 0, none⟩ ∧ vcap = cap' := by simp at e1; exact e1
        obtain ⟨p, hp⟩ : ∃ p, pl[k] = p := ⟨_, rfl⟩
        rw [hp] at hrow hdl htk2 hai hfl
        obtain ⟨pi, ⟨site, seq, dep, key, val⟩, vd⟩ := p
        dsimp only at *
        obtain ⟨da, dcap, rfl⟩ := ownsRow_slice hrow
        have hq : ∀ j, j < 5 → wr.cell? ⟨g, k * 5 + j, none⟩ = (Pl.cells5 ⟨pi, ⟨site, seq, dep, key, val⟩, .slice da dep.length dcap⟩)[j]? := fun j hj => by
          rw [← hfl j hj, hfr.recs.1.cellAt (k * 5 + j) (by omega)]
        have q0 := hq 0 (by omega)
        have q1 := hq 1 (by omega)
        have q2 := hq 2 (by omega)
        have q3 := hq 3 (by omega)
        have q4 := hq 4 (by omega)
        simp only [Pl.cells5, List.getElem?_cons_zero, List.getElem?_cons_succ, Nat.add_zero] at q0 q1 q2 q3 q4
        have Htk2 := hide htk2
        have Hpre := hide hpre
        have Hpl := hide hplen
        have Hrow := hide hrow
        have hbA := box_below wr (.cells #[.int .i64 site, .int .i64 seq, .slice da dep.length dcap, .string key, .string val] 36)
        have xA := World.alloc_heap_new wr (.cells #[.int .i64 site, .int .i64 seq, .slice da dep.length dcap, .string key, .string val] 36)
        have C := hide (cloneVec_calls _ dep (wr.alloc (.cells #[.int .i64 site, .int .i64 seq, .slice da dep.length dcap, .string key, .string val] 36)) ((IsNums.of_row hrow).below hbA) hdl)
        have HbA := hide hbA
        have XA := hide xA
        have Hcs := hide cs
        clear hfr hg hnc hcm hcs htk hrow hp htk2 hpre hplen e1 hfl hq hbA xA
        gi_wp2
        refine ⟨trivial, ?_⟩
        refine ((callsIn_wide (n := _)).2 C.out).mono ?_
        rintro e w3 ⟨v', rfl, hown, hb3⟩
        obtain ⟨va', vc', rfl⟩ := ownsRow_slice hown
        have x3 := keepB XA.out hb3
        obtain ⟨k0, k1, k2, k3, k4, f0, f1, f2, f3, f4⟩ := cells5 x3
        have hB3 : Below wr.heap.size wr w3 := HbA.out.trans (hb3.mono HbA.out.size)
        have hsz3 : (wr.alloc (.cells #[.int .i64 site, .int .i64 seq, .slice da dep.length dcap, .string key, .string val] 36)).heap.size = wr.heap.size + 1 := by simp
        have hB4 := hB3.setCell (p := ⟨wr.heap.size, 2, none⟩) (Nat.le_refl _) (.slice va' dep.length vc')
        have hown4 : (w3.setCell ⟨wr.heap.size, 2, none⟩ (.slice va' dep.length vc')).ownsRow wr.heap.size 3 1 (.slice va' dep.length vc') dep.length (dep.map (Value.int .i64)) :=
          ownsRow_low (ownsRow_of_heap hown fun j hj => Below.heap_setCell _ _ _ _ (show j ≠ wr.heap.size by have := (hown.lt j hj).1; omega)) (by omega)
        have cs3 : w3.cell? ⟨c, 0, none⟩ = some (.int .i64 start) := (hB3.cell (p := ⟨c, 0, none⟩) (World.block_lt_of_cell? _ _ Hcs.out)).trans Hcs.out
        have hcne : c ≠ wr.heap.size := by have := World.block_lt_of_cell? _ _ Hcs.out; exact fun e => by rw [e] at this; exact absurd this (Nat.lt_irrefl _)
        obtain ⟨fn, tmps, assign, body, hy, hR⟩ := HY.out pre ⟨start + (k : Int), ⟨site, seq, dep, key, val⟩, .slice va' dep.length vc'⟩ wr _ hJs ⟨hB4, hown4, hdl⟩ (by have := Hpl.out; omega)
        dsimp only [encPl] at hy
        have HB4 := hide hB4
        clear C hown hb3 hB3 hB4 hown4 cs q0 q1 q2 q3 q4 x3
        gi_wp2
        refine hR.mono ?_
        rintro e W4 hW4
        obtain ⟨b, rfl, hb4⟩ := yield_bool hW4
        rcases hb4 with ⟨rfl, hJ4, hk4⟩ | ⟨rfl, hJx4⟩
        · gi_wp2
          exact ⟨⟨k + 1, _, by omega, by go_num, by rw [List.map_append, Hpre.out, Htk2.out, hai]; rfl, hJ4, keepsSpan_t hks (keepsSpan_t (KeepsSpan.of_below HB4.out hsz) hk4)⟩, by simp [intOf]; omega⟩
        · gi_wp2
          try rw [Exit.noGoto_normal]
          go_end0
          refine ⟨⟨_, rfl⟩, .inr ⟨_, ?_, hJx4⟩⟩
          rw [List.map_append, Hpre.out]
          refine ⟨(pl.drop (k + 1)).map (fun p => (p.i, p.r)), ?_⟩
          have e := Htk2.out
          rw [hai] at e
          simp only [List.map_cons, List.map_nil]
          rw [← e, ← List.map_append, List.take_append_drop]
    · obtain rfl : k = pl.length := by omega
      gi_wp2
      try rw [Exit.noGoto_normal]
      go_end0
      exact ⟨⟨_, rfl⟩, .inl ⟨pre, by rw [hpre, List.take_of_length_le (Nat.le_refl _)], hJs⟩⟩

theorem recs_get' (L : LogD) (pos : Int) (N k : Nat) (h : k < N) : (L.recs pos N)[k]? = some (pos + (k : Int), (L.get (pos + (k : Int))).1) := by simp [LogD.recs, h]

/-- What All answers, ranged over by the laws' Rows: the positions from the trim to the head, their records. -/
theorem logRows_calls (b c : Nat) (v : Value) (pl : List Pl) (L : LogD) (K most : Nat) (w : World) (hA : IsAllL w b c v pl L.trim) (hpl : pl.map (fun p => (p.i, p.r)) = L.recs L.trim K) (h0 : 0 ≤ L.trim) (h1 : L.trim ≤ 2147483648) (hd : ∀ p ∈ L.recs L.trim K, p.2.dep.length ≤ 17592186044416) (hK : K ≤ most) (hm : most ≤ 1048576) :
    Calls Tryz.prog 30 #[.func (.func 78) #[] #[.pointer (some ⟨b, 0, none⟩), .pointer (some ⟨c, 0, none⟩)], .int .i64 (most : Int)] w fun e w' => ∃ va vb, e = .returned (.tuple #[va, vb, .bool true]) ∧
      IsNums .i64 w' va ((L.recs L.trim K).map (·.1)) ∧ IsRecs w' vb ((L.recs L.trim K).map (·.2)) ∧ Below w.heap.size w w' := by
  have hlen : pl.length = K := by have := congrArg List.length hpl; simpa [recs_length] using this
  have hat : ∀ k (h : k < pl.length), pl[k].i = L.trim + (k : Int) := fun k h => by
    have e : (pl.map fun p => (p.i, p.r))[k]? = (L.recs L.trim K)[k]? := by rw [hpl]
    rw [List.getElem?_map, List.getElem?_eq_getElem h, recs_get' L L.trim K k (by omega)] at e
    simp only [Option.map_some, Option.some.injEq, Prod.mk.injEq] at e
    exact e.1
  have hdl : ∀ p ∈ pl, p.r.dep.length ≤ 17592186044416 := fun p hp => hd (p.i, p.r) (by rw [← hpl]; exact List.mem_map_of_mem hp)
  refine rowsG_calls 78 _ w.heap.size (L.recs L.trim K) most w (Nat.le_refl _) (enters_of Tryz.func78 (by kernel_rfl) rfl) (fun w' hw' => ?_) (by rw [recs_length]; exact hK) hm
  intro lp J Jx W hW hY hJ
  have hW0 : Below w.heap.size w W := hw'.trans (hW.mono hw'.size)
  have := all1L_in 4 (by decide) lp b c w.heap.size v pl L.trim (by omega) h0 h1 hat hdl J Jx (fun pre x A W h1 h2 h3 => hY pre x A W h1 h2 (by rw [recs_length]; omega)) W hW0.size (Nat.lt_of_le_of_lt (Nat.zero_le _) (ltAt hA.box))
    (fun W' hk => hA.span fun k h2 => (hk k (Nat.zero_le _) h2).trans (hW0.block k h2)) hJ
  rw [hpl] at this
  exact this

end Go.Proofs.YtjbjjfndkpcciaaGreatDoor

/- A log is made; Trimmed; the own disk's lines. Own work; no statement. -/
set_option linter.unusedSimpArgs false
set_option linter.unusedVariables false
namespace Go.Proofs.YtjbjjfndkpcciaaGreatDoor
open Go.RowKit Go.Shelf Go.Sort

/-- A new log. -/
def newL (stripes room : Int) : LogD := ⟨room, [], List.replicate 8 (emptyS ⟨room, [], 0⟩), [(0, stripes)], false, 0, [], 0, 0⟩

set_option maxHeartbeats 4000000 in
set_option maxRecDepth 100000 in
theorem logNew_calls (stripes room : Int) (w : World) (h1 : 1 ≤ stripes) (h2 : stripes ≤ 8) (h3 : 1 ≤ room) (h4 : room ≤ 1048576) :
    Calls Tryz.prog 11 #[.int .i64 stripes, .int .i64 room] w fun e w' => ∃ m, e = .returned (.tuple #[.pointer (some ⟨m.p, 0, none⟩), .int .i64 0]) ∧ IsLog w' w.heap.size m (newL stripes room) ∧ Below w.heap.size w w' := by
  have hok : okMap ([] ++ [(0, stripes)]) = true := by
    unfold okMap
    simp [okFrom]
    omega
  have hadd : addM [] 0 stripes = [(0, stripes)] := by unfold addM; rw [if_pos hok]; rfl
  have hchk : checkM ([] ++ [(0, stripes)]) = 0 := by unfold checkM; rw [if_pos hok]
  have C1 := hide (mapAdd_calls (.slice none 0 0) [] 0 stripes w (IsMap.nil w) (by decide))
  rw [hadd, hchk] at C1
  have C2 := hide (fun W => diskNew_calls room W h3 h4)
  have C3 := hide (fun W => newSegments_calls room W h3 h4)
  clear hok hadd hchk
  go_enter Tryz.func11, Tryz.ntmps11
  go_wp2_with fail
  refine C1.out.mono ?_
  rintro e w1 ⟨vs, rfl, hown1, b1⟩
  obtain ⟨va, vc, rfl⟩ := ownsRow_slice hown1
  have Hown1 := hide hown1
  have Hb1 := hide b1
  clear hown1 b1 C1
  go_wp2_with fail
  refine (C2.out w1).mono ?_
  rintro e w2 ⟨rfl, d2, b2⟩
  have D2 := hide d2
  have Hb2 := hide b2
  clear d2 b2 C2
  go_wp2_with fail
  refine (C3.out w2).mono ?_
  rintro e w3 ⟨ss, rfl, hs3, h8, hn3, b3⟩
  obtain ⟨q0, q1, q2, q3, q4, q5, q6, q7, hq8⟩ := eight_of (l := ptrs ss) (by simp [ptrs, h8])
  have ef8 : (fillV (adrs (ptrs ss))).toArray = #[.pointer (some ⟨q0, 0, none⟩), .pointer (some ⟨q1, 0, none⟩), .pointer (some ⟨q2, 0, none⟩), .pointer (some ⟨q3, 0, none⟩), .pointer (some ⟨q4, 0, none⟩), .pointer (some ⟨q5, 0, none⟩), .pointer (some ⟨q6, 0, none⟩), .pointer (some ⟨q7, 0, none⟩)] := by rw [hq8]; rfl
  rw [ef8]
  clear ef8
  have Hs3 := hide hs3
  have Hb3 := hide b3
  have Hn3 := hide hn3
  have Hq := hide hq8
  clear hs3 b3 C3 hn3 hq8
  go_wp2_with fail
  go_ret2
  have s1 := Hb1.out.size
  have s2 := Hb2.out.size
  have s3 := Hb3.out.size
  have lt2 := D2.out.lt
  have bA := box_below w3 (.cells #[.pointer (some ⟨q0, 0, none⟩), .pointer (some ⟨q1, 0, none⟩), .pointer (some ⟨q2, 0, none⟩), .pointer (some ⟨q3, 0, none⟩), .pointer (some ⟨q4, 0, none⟩), .pointer (some ⟨q5, 0, none⟩), .pointer (some ⟨q6, 0, none⟩), .pointer (some ⟨q7, 0, none⟩)] 83)
  have bB := box_below (w3.alloc (.cells #[.pointer (some ⟨q0, 0, none⟩), .pointer (some ⟨q1, 0, none⟩), .pointer (some ⟨q2, 0, none⟩), .pointer (some ⟨q3, 0, none⟩), .pointer (some ⟨q4, 0, none⟩), .pointer (some ⟨q5, 0, none⟩), .pointer (some ⟨q6, 0, none⟩), .pointer (some ⟨q7, 0, none⟩)] 83)) (.cells #[.pointer (some ⟨w1.heap.size, 0, none⟩), .pointer (some ⟨q0, 0, none⟩), .pointer (some ⟨q1, 0, none⟩), .pointer (some ⟨q2, 0, none⟩), .pointer (some ⟨q3, 0, none⟩), .pointer (some ⟨q4, 0, none⟩), .pointer (some ⟨q5, 0, none⟩), .pointer (some ⟨q6, 0, none⟩), .pointer (some ⟨q7, 0, none⟩), .slice va 1 vc, .bool false, .int .i64 0, .slice none 0 0, .int .i64 0, .int .i64 0] 87)
  have hnew := World.alloc_heap_new (w3.alloc (.cells #[.pointer (some ⟨q0, 0, none⟩), .pointer (some ⟨q1, 0, none⟩), .pointer (some ⟨q2, 0, none⟩), .pointer (some ⟨q3, 0, none⟩), .pointer (some ⟨q4, 0, none⟩), .pointer (some ⟨q5, 0, none⟩), .pointer (some ⟨q6, 0, none⟩), .pointer (some ⟨q7, 0, none⟩)] 83)) (.cells #[.pointer (some ⟨w1.heap.size, 0, none⟩), .pointer (some ⟨q0, 0, none⟩), .pointer (some ⟨q1, 0, none⟩), .pointer (some ⟨q2, 0, none⟩), .pointer (some ⟨q3, 0, none⟩), .pointer (some ⟨q4, 0, none⟩), .pointer (some ⟨q5, 0, none⟩), .pointer (some ⟨q6, 0, none⟩), .pointer (some ⟨q7, 0, none⟩), .slice va 1 vc, .bool false, .int .i64 0, .slice none 0 0, .int .i64 0, .int .i64 0] 87)
  rw [World.size_alloc] at hnew
  have b34 := bA.trans (bB.mono bA.size)
  have b24 := Hb3.out.trans (b34.mono Hb3.out.size)
  have b14 := Hb2.out.trans (b24.mono Hb2.out.size)
  have b04 := Hb1.out.trans (b14.mono Hb1.out.size)
  refine ⟨⟨w3.heap.size + 1, w1.heap.size, none, ss⟩, rfl, ⟨by dsimp only; omega, (D2.out.lower s1).new b24, h8, (Hs3.out.lower (by omega)).keep b34, fun x hx hx' => ?_, .slice va 1 vc, .slice none 0 0, ?_, ownsRow_low (own_below Hown1.out b14) (Nat.zero_le _), World.ownsRow_nil _ _ _ _⟩, b04⟩
  · have h5 := Hn3.out x hx'
    rcases hx with h | h
    · dsimp only at h
      omega
    · cases h
  · dsimp only
    rw [hnew, Hq.out]
    rfl

set_option maxHeartbeats 2000000 in
set_option maxRecDepth 100000 in
theorem logTrimmed_calls (B : Nat) (m : LogM) (L : LogD) (w : World) (hd : IsLog w B m L) (hl : L.gone.length ≤ 17592186044416) :
    Calls Tryz.prog 33 #[.pointer (some ⟨m.p, 0, none⟩)] w fun e w' => ∃ v, e = .returned (.tuple #[.int .i64 L.trim, v]) ∧ w'.ownsRow w.heap.size 3 1 v L.gone.length (L.gone.map (Value.int .i64)) ∧ Below w.heap.size w w' := by
  obtain ⟨_, _, -, r2, -, -, -, c11, c12, -, -, -, -⟩ := hd.cells
  obtain ⟨a, cap, rfl⟩ := ownsRow_slice r2
  have C := hide (cloneVec_calls _ L.gone w.drew ((IsNums.of_row r2).below (drewsB w 1)) hl)
  have d11 : w.drew.cell? ⟨m.p, 11, none⟩ = some (.int .i64 L.trim) := c11
  have d12 : w.drew.cell? ⟨m.p, 12, none⟩ = some (.slice a L.gone.length cap) := c12
  have hltm := hd.lt
  have HK := hide (fun W (h : Below w.drew.heap.size w.drew W) => (⟨(h.cell (p := ⟨m.p, 11, none⟩) hltm).trans d11, (h.cell (p := ⟨m.p, 12, none⟩) hltm).trans d12⟩ : W.cell? ⟨m.p, 11, none⟩ = some (.int .i64 L.trim) ∧ W.cell? ⟨m.p, 12, none⟩ = some (.slice a L.gone.length cap)))
  clear hd r2
  go_enter Tryz.func33, Tryz.ntmps33
  go_wp2_with fail
  refine region_headT 10 (fun W => W.cell? ⟨m.p, 11, none⟩ = some (.int .i64 L.trim) ∧ W.cell? ⟨m.p, 12, none⟩ = some (.slice a L.gone.length cap)) (by kernel_rfl) (by decide) ?_
  refine HeadT.take 0 (.pointer (some ⟨m.p, 0, none⟩)) rfl (by kernel_rfl) (.inl ⟨rfl, fun w2 ⟨t0, t1⟩ => by go_simp⟩) ⟨d11, d12⟩ ?_
  refine HeadT.take 1 (.pointer (some ⟨m.p, 0, none⟩)) rfl (by kernel_rfl) (.inl ⟨rfl, fun w2 ⟨t0, t1⟩ => by go_simp⟩) ⟨d11, d12⟩ ?_
  refine HeadT.take 2 (.pointer (some ⟨m.p, 11, none⟩)) rfl (by kernel_rfl) (.inl ⟨rfl, fun w2 ⟨t0, t1⟩ => by go_simp⟩) ⟨d11, d12⟩ ?_
  refine HeadT.take 3 (.int .i64 L.trim) rfl (by kernel_rfl) (.inl ⟨rfl, fun w2 ⟨t0, t1⟩ => by go_simp⟩) ⟨d11, d12⟩ ?_
  refine HeadT.take 4 (.pointer (some ⟨m.p, 0, none⟩)) rfl (by kernel_rfl) (.inl ⟨rfl, fun w2 ⟨t0, t1⟩ => by go_simp⟩) ⟨d11, d12⟩ ?_
  refine HeadT.take 5 (.pointer (some ⟨m.p, 0, none⟩)) rfl (by kernel_rfl) (.inl ⟨rfl, fun w2 ⟨t0, t1⟩ => by go_simp⟩) ⟨d11, d12⟩ ?_
  refine HeadT.take 6 (.pointer (some ⟨m.p, 12, none⟩)) rfl (by kernel_rfl) (.inl ⟨rfl, fun w2 ⟨t0, t1⟩ => by go_simp⟩) ⟨d11, d12⟩ ?_
  refine HeadT.take 7 (.slice a L.gone.length cap) rfl (by kernel_rfl) (.inl ⟨rfl, fun w2 ⟨t0, t1⟩ => by go_simp⟩) ⟨d11, d12⟩ ?_
  refine HeadT.only 8 (by kernel_rfl) ?_
  refine wpOp_call rfl rfl 79 #[.slice a L.gone.length cap] (by go_simp) C.out ?_
  rintro e w2 ⟨v', rfl, hown, hb⟩
  obtain ⟨va, vc, rfl⟩ := ownsRow_slice hown
  refine ⟨_, rfl, HK.out w2 hb, ?_⟩
  refine HeadT.only 9 (by kernel_rfl) ?_
  refine wpOp_val rfl rfl (v := .int .i64 L.trim) (w' := w2) (by go_simp) ⟨HK.out w2 hb, ?_⟩
  refine HeadT.tail rfl (by kernel_rfl) ?_
  simp only [List.drop_succ_cons, List.drop_zero]
  have HO := hide hown
  have HB := hide ((drewsB w 1).trans (hb.mono (Nat.le_refl _)))
  clear hown hb HK C c11 c12 d11 d12
  go_wp2_with fail
  try simp only [noPanic]
  go_wp2_with fail
  go_ret2
  exact ⟨_, rfl, HO.out, HB.out⟩

theorem textO_trim_size {pos : Int} {l : List Int} (h0 : 0 ≤ pos) (h1 : pos ≤ 9223372036854775807) (hl : InS l) (h8 : l.length ≤ 8) : (textO (.trim pos l)).size ≤ 300 := by
  have a1 := Lib.itoa_length_le pos (by omega) h1
  have a2 := textL_length (l := l) fun x hx => by have := hl x hx; omega
  simp only [textO, ByteArray.size, List.size_toArray, List.length_cons, List.length_append]
  omega

set_option maxHeartbeats 1000000 in
theorem trimLine_calls (pos : Int) (v : Value) (l : List Int) (w : World) (hv : IsNums .i64 w v l) (h0 : 0 ≤ pos) (h1 : pos ≤ 9223372036854775807) (hl : InS l) (h8 : l.length ≤ 8) (hp : Pow w) :
    Calls Tryz.prog 82 #[.int .i64 pos, v] w fun e w' => e = .returned (.string (textO (.trim pos l))) ∧ Below w.heap.size w w' := by
  have a1 := Lib.itoa_length_le pos (by omega) h1
  have hr : InR l := fun x hx => by have := hl x hx; omega
  have a2 := textL_length hr
  have C1 := hide (itoa_calls pos w (by omega) h1 hp)
  have C2 := hide (fun W (h : Below w.heap.size w W) => text_calls v l W (hv.below h) (by omega) hr (hp.below h))
  have z1 : (⟨(Lib.itoa pos).toArray⟩ : ByteArray).size ≤ 21 := by simpa [ByteArray.size] using a1
  have z2 : (⟨(textL l).toArray⟩ : ByteArray).size ≤ 22 * l.length + 2 := by simpa [ByteArray.size] using a2
  obtain ⟨T, hT⟩ : ∃ T, textO (.trim pos l) = T := ⟨_, rfl⟩
  have HT : Hid (T = (⟨#[116, 32]⟩ : ByteArray) ++ (⟨(Lib.itoa pos).toArray⟩ : ByteArray) ++ (⟨#[32]⟩ : ByteArray) ++ (⟨(textL l).toArray⟩ : ByteArray)) := by
    refine hide ?_
    rw [← hT]
    simp only [textO]
    apply ByteArray.ext
    simp [ByteArray.data_append]
  rw [hT]
  generalize (⟨(Lib.itoa pos).toArray⟩ : ByteArray) = S1 at *
  generalize (⟨(textL l).toArray⟩ : ByteArray) = S2 at *
  clear hT a1 a2 hv hp
  go_enter Tryz.func82, Tryz.ntmps82
  go_wp2_with fail
  refine C1.out.mono ?_
  rintro e w1 ⟨rfl, b1⟩
  have D := hide (C2.out w1 b1)
  have B1 := hide b1
  clear b1
  go_wp2_with fail
  refine D.out.mono ?_
  rintro e w2 ⟨rfl, b2⟩
  have B2 := hide b2
  clear b2
  go_wp2_with fail
  go_ret
  exact ⟨by rw [HT.out]; rfl, B1.out.trans (B2.out.mono B1.out.size)⟩

theorem spansTo_size {m : MapD} (h : MapR m) : (textM m).length ≤ 44 * m.length := spansTo_length h m.length

set_option maxHeartbeats 1000000 in
theorem mapLine_calls (v : Value) (m : MapD) (w : World) (hv : IsMap w v m) (hl : m.length ≤ 4294967296) (hr : MapR m) (hp : Pow w) :
    Calls Tryz.prog 76 #[v] w fun e w' => e = .returned (.string (textO (.map m))) ∧ Below w.heap.size w w' := by
  have a2 := spansTo_size hr
  have C2 := hide (mapText_calls v m w hv hl hr hp)
  have z2 : (⟨(textM m).toArray⟩ : ByteArray).size ≤ 44 * m.length := by simpa [ByteArray.size] using a2
  obtain ⟨T, hT⟩ : ∃ T, textO (.map m) = T := ⟨_, rfl⟩
  have HT : Hid (T = (⟨#[109, 32]⟩ : ByteArray) ++ (⟨(textM m).toArray⟩ : ByteArray)) := by
    refine hide ?_
    rw [← hT]
    simp only [textO]
    apply ByteArray.ext
    simp [ByteArray.data_append]
  rw [hT]
  generalize (⟨(textM m).toArray⟩ : ByteArray) = S2 at *
  clear hT a2 hv hp
  go_enter Tryz.func76, Tryz.ntmps76
  go_wp2_with fail
  refine C2.out.mono ?_
  rintro e w2 ⟨rfl, b2⟩
  have B2 := hide b2
  clear b2
  go_wp2_with fail
  go_ret
  exact ⟨by rw [HT.out]; rfl, B2.out⟩

/-- The own disk has gone on. -/
theorem IsLog.own_goes {w w' : World} {B : Nat} {m : LogM} {L L' : LogD} {g' : Option Nat} (h : IsLog w B m L) (hd : IsDisk w' B m.dp g' L'.own) (t : Touch (onDisk m.dp m.dg) w w') (hn : ∀ k, g' = some k → m.dg = some k ∨ w.heap.size ≤ k)
    (e1 : L'.segs = L.segs) (e2 : L'.map = L.map) (e3 : L'.gone = L.gone) (e4 : L'.down = L.down ∧ L'.trim = L.trim ∧ L'.head = L.head ∧ L'.next = L.next) :
    IsLog w' B { m with dg := g' } L' ∧ Touch m.on w w' ∧ (∀ x, LogM.on { m with dg := g' } x → m.on x ∨ w.heap.size ≤ x) := by
  obtain ⟨vs, vg, hp, h1, h2⟩ := h.val
  have hF : Firm w (onDisk m.dp m.dg) := h.own.firm
  have hon : ∀ x, onDisk m.dp g' x → onDisk m.dp m.dg x ∨ w.heap.size ≤ x := fun x hx => by
    rcases hx with h | h
    · exact .inl (.inl h)
    · exact (hn x h).imp (fun h => .inr h) id
  refine ⟨⟨h.low, hd, h.n8, ?_, fun x hx hx' => ?_, vs, vg, ?_, ?_, ?_⟩, t.mono fun x _ hx => .inr (.inl hx), fun x hx => ?_⟩
  · rw [e1]
    exact h.segs.touch t hF fun x hx hx' => h.off x hx' hx
  · rcases hon x hx with h3 | h3
    · exact h.off x h3 hx'
    · have := (h.segs.on hx').2
      omega
  · dsimp only
    rw [t.block _ (ltAt hp) h.offp.1, hp]
    unfold logCells
    rw [e4.1, e4.2.1, e4.2.2.1, e4.2.2.2]
  · rw [e2]
    exact row_firm h1 t hF span_firm
  · rw [e3]
    exact row_firm h2 t hF int_firm
  · rcases hx with h3 | h3 | h3
    · exact .inl (.inl h3)
    · exact (hon x h3).imp (fun h => .inr (.inl h)) id
    · exact .inl (.inr (.inr h3))

theorem own_note {L : LogD} {o : OwnOp} (he : writeE L.own (textO o) = 0) : (⟨(writeD L.own (textO o)).room, (writeD L.own (textO o)).lines, (writeD L.own (textO o)).lines.length⟩ : DiskD) = ({ L with ops := L.ops ++ [o] } : LogD).own := by
  unfold writeD
  rw [if_pos he]
  unfold LogD.own
  simp

set_option maxHeartbeats 2000000 in
theorem note_calls (B : Nat) (m : LogM) (L : LogD) (o : OwnOp) (w : World) (hd : IsLog w B m L) (hB : B ≤ w.heap.size) (hs : (textO o).size ≤ 1099511627776) (he : writeE L.own (textO o) = 0) :
    Calls Tryz.prog 75 #[.pointer (some ⟨m.p, 0, none⟩), .string (textO o)] w fun e w' => e = .returned (.int .i64 0) ∧ LogGoes B m { L with ops := L.ops ++ [o] } w w' := by
  obtain ⟨_, _, -, -, c0, -, -, -, -, -, -, -, -⟩ := hd.cells
  have C1 := hide (diskWrite_to B m.dp m.dg L.own (textO o) 0 (writeD L.own (textO o)) he rfl w hd.own hB hs)
  have Hd := hide hd
  have Hn := hide (own_note he)
  generalize textO o = s at *
  clear hd he
  go_enter Tryz.func75, Tryz.ntmps75
  go_wp2_with fail
  refine C1.out.mono ?_
  rintro e w1 ⟨rfl, g1, d1, t1, n1⟩
  have x1 : w1.cell? ⟨m.p, 0, none⟩ = some (.pointer (some ⟨m.dp, 0, none⟩)) := by
    obtain ⟨vs, vg, hp, -⟩ := Hd.out.val
    have := (t1.block _ (ltAt hp) Hd.out.offp.1).trans hp
    simpa [logCells, ptrV] using cellsAt this 0
  have D1 := hide d1
  have T1 := hide t1
  have N1 := hide n1
  have C2 := hide (diskSync_calls B m.dp g1 _ w1 d1)
  clear d1 t1 n1 c0 C1
  go_wp2_with fail
  refine C2.out.mono ?_
  rintro e w2 ⟨rfl, d2, t2⟩
  rw [Hn.out] at d2
  have t12 : Touch (onDisk m.dp m.dg) w w2 := T1.out.next t2 fun i hi hx => by
    rcases hx with h | h
    · exact .inl h
    · rcases N1.out i h with h3 | h3
      · exact .inr h3
      · omega
  obtain ⟨I3, T3, N3⟩ := Hd.out.own_goes (L' := { L with ops := L.ops ++ [o] }) d2 t12 N1.out rfl rfl rfl ⟨rfl, rfl, rfl, rfl⟩
  have HG := hide (show LogGoes B m { L with ops := L.ops ++ [o] } w w2 from ⟨{ m with dg := g1 }, rfl, I3, T3, N3⟩)
  clear d2 t2 I3 T3 N3 C2 t12
  go_wp2_with fail
  go_ret
  exact ⟨rfl, HG.out⟩

end Go.Proofs.YtjbjjfndkpcciaaGreatDoor
