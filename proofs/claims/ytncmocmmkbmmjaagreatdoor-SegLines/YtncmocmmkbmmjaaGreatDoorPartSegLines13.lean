/- Own work: the parts S17, S18, S19, S12 of the proof, laid together. -/
import Derived.Test.YtncmocmmkbmmjaaGreatDoorPartSegLines12
import Derived.Test.YtncmocmmkbmmjaaGreatDoorPartSegLines6
/- seg's Open. Own work; no statement. -/
set_option linter.unusedSimpArgs false
set_option linter.unusedVariables false
namespace Go.Proofs.YtncmocmmkbmmjaaGreatDoor
open Go.RowKit Go.Shelf Go.Sort

attribute [local go_sem] Oper.semAt_some

/-- Where its blocks, and what lies from c on, are as they were a segment is as it was. -/
theorem IsSeg.off {W W' : World} {B : Nat} {m : SegM} {S : SegD} (h : IsSeg W B m S) (hsz : W.heap.size ≤ W'.heap.size) (ht : ∀ k, k < W.heap.size → (m.on k ∨ m.c ≤ k) → W'.heap[k]? = W.heap[k]?) : IsSeg W' B m S := by
  obtain ⟨v, qs, hv, hl, hp, hr, hs⟩ := h.val
  refine ⟨h.ok, h.low, Nat.le_trans h.cl hsz, h.disk.keep fun k hk => ht k (h.disk.on hk).2 (.inl (.inr (.inr hk))), v, qs, hv, hl, (ht m.p h.lt (.inl (.inl rfl))).trans hp, ownsRow_of_heap hr fun k e => ht k (hr.lt k e).2 (.inl (.inr (.inl (hv ▸ e)))), fun i h1 h2 => ?_⟩
  obtain ⟨vd, a, b, c⟩ := hs i h1 h2
  exact ⟨vd, a, (ht _ (ltAt b) (.inr a)).trans b, ownsRow_of_heap c fun k e => ht k (c.lt k e).2 (.inr (c.lt k e).1)⟩
theorem IsSeg.own {X Y : World} {row : Option Nat} {B : Nat} {m : SegM} {S : SegD} (h : IsSeg X B m S) (hg : X.grownBy Y row) (hrow : ∀ r, row = some r → ∃ o : Obj, X.heap[r]? = some o ∧ o.isCells = false) : IsSeg Y B m S := by
  obtain ⟨v, qs, hv, hl, hp, hr, hs⟩ := h.val
  refine ⟨h.ok, h.low, Nat.le_trans h.cl hg.size, h.disk.own hg hrow, v, qs, hv, hl, (own_keeps hg hrow hp).trans hp, ownsRow_own' hg hrow hr, fun i h1 h2 => ?_⟩
  obtain ⟨vd, a, b, c⟩ := hs i h1 h2
  exact ⟨vd, a, (own_keeps hg hrow b).trans b, ownsRow_own' hg hrow c⟩
theorem IsSeg.cells {W : World} {B : Nat} {m : SegM} {S : SegD} (h : IsSeg W B m S) {k : Nat} (hk : m.on k) : ∃ c t, W.heap[k]? = some (.cells c t (0, 0)) := by
  obtain ⟨-, -, c, t, h1, -⟩ := h.types hk
  exact ⟨c, t, h1⟩
/-- What is no cell is as it was where a segment alone has changed. -/
theorem IsSeg.keepsFrom {W W' : World} {B n : Nat} {m : SegM} {S : SegD} (h : IsSeg W B m S) (t : Touch m.on W W') : KeepsFrom n W W' :=
  ⟨t.size, fun k o _ hk ho => (t.block k (ltAt hk) fun e => by
    obtain ⟨c, ty, h1⟩ := h.cells e
    rw [hk] at h1
    cases h1
    cases ho).trans hk⟩
theorem IsEnt.lower {w : World} {B B' : Nat} {v : Value} {e : EntD} (h : IsEnt w B v e) (hB : B' ≤ B) : IsEnt w B' v e := by
  obtain ⟨vd, h1, h2⟩ := h
  exact ⟨vd, h1, ownsRow_low h2 hB⟩

theorem keepsFrom_new {B : Nat} {A W : World} (h : Below A.heap.size A W) : KeepsFrom B A W := ⟨h.size, fun k o _ ho _ => keepB ho h⟩

theorem cutE_all (D : DiskD) (k : Nat) (h : k ≤ D.lines.length) : cutE ⟨D.room, D.lines, D.lines.length⟩ (k : Int) = 0 := by
  unfold cutE
  rw [if_neg (by dsimp only; omega), if_neg (by dsimp only; omega)]
theorem cutD_all (D : DiskD) (k : Nat) (h : k ≤ D.lines.length) : cutD ⟨D.room, D.lines, D.lines.length⟩ (k : Int) = ⟨D.room, D.lines.take k, k⟩ := by
  unfold cutD
  rw [if_pos (cutE_all D k h)]
  simp

/-- Within Open's loop. -/
structure InOpen (W : World) (B p : Nat) (g : Option Nat) (S : SegD) (k s c : Nat) (sg : Option Nat) : Prop where
  b1 : Boxed W (s + 1) 33 (.pointer (some ⟨s, 0, none⟩))
  b2 : Boxed W (s + 2) 3 (.int .i64 (k : Int))
  seg : IsSeg W B ⟨s, p, g, sg, c⟩ S
  new : ∀ j, sg = some j → c ≤ j

theorem InOpen.own {X Y : World} {row : Option Nat} {B p : Nat} {g : Option Nat} {S : SegD} {k s c : Nat} {sg : Option Nat} (h : InOpen X B p g S k s c sg) (hg : X.grownBy Y row) (hrow : ∀ r, row = some r → ∃ o : Obj, X.heap[r]? = some o ∧ o.isCells = false) : InOpen Y B p g S k s c sg :=
  ⟨boxed_own' hg hrow h.b1, boxed_own' hg hrow h.b2, h.seg.own hg hrow, h.new⟩
theorem InOpen.below {X Y : World} {B p : Nat} {g : Option Nat} {S : SegD} {k s c : Nat} {sg : Option Nat} (h : InOpen X B p g S k s c sg) (hb : Below X.heap.size X Y) : InOpen Y B p g S k s c sg :=
  ⟨boxed_of_heap h.b1 (hb.block _ h.b1.lt), boxed_of_heap h.b2 (hb.block _ h.b2.lt), h.seg.keep hb, h.new⟩

set_option maxRecDepth 100000 in
set_option maxHeartbeats 4000000 in
theorem segOpen_calls (B p : Nat) (g : Option Nat) (D : DiskD) (w : World) (hd : IsDisk w B p g D) (hB : B ≤ w.heap.size) :
    Calls Tryz.prog 12 #[.pointer (some ⟨p, 0, none⟩)] w fun e w' => ∃ m, e = .returned (.tuple #[.pointer (some ⟨m.p, 0, none⟩), .int .i64 0]) ∧ m.dp = p ∧ IsSeg w' B m (openS D) ∧ Touch (onDisk p g) w w' ∧ (∀ k, m.on k → onDisk p g k ∨ w.heap.size ≤ k) := by
  obtain ⟨W0, hW0⟩ : ∃ W0, ((w.alloc (.cells #[.pointer (some ⟨p, 0, none⟩), .int .i64 0, .int .i64 0, .slice none 0 0] 82)).alloc (.cells #[.pointer (some ⟨w.heap.size, 0, none⟩)] 33)).alloc (.cells #[.int .i64 0] 3) = W0 := ⟨_, rfl⟩
  have HB0 : Below w.heap.size w W0 := by rw [← hW0]; exact (((Below.refl _ w).alloc (Nat.le_refl _) _).alloc (by simp) _).alloc (by simp; omega) _
  have hs0 : W0.heap.size = w.heap.size + 3 := by rw [← hW0]; simp
  have x0 : W0.heap[w.heap.size]? = some (.cells #[.pointer (some ⟨p, 0, none⟩), .int .i64 0, .int .i64 0, .slice none 0 0] 82 (0, 0)) := by
    rw [← hW0]; exact (Below.heap_alloc _ _ _ (by simp; omega)).trans ((Below.heap_alloc _ _ _ (by simp)).trans (World.alloc_heap_new w _))
  have x1 : Boxed W0 (w.heap.size + 1) 33 (.pointer (some ⟨w.heap.size, 0, none⟩)) := by
    have := (Boxed.new (w.alloc (.cells #[.pointer (some ⟨p, 0, none⟩), .int .i64 0, .int .i64 0, .slice none 0 0] 82)) 33 (.pointer (some ⟨w.heap.size, 0, none⟩))).alloc (.cells #[.int .i64 0] 3)
    rw [hW0, World.size_alloc] at this
    exact this
  have x2 : Boxed W0 (w.heap.size + 2) 3 (.int .i64 0) := by
    have := Boxed.new ((w.alloc (.cells #[.pointer (some ⟨p, 0, none⟩), .int .i64 0, .int .i64 0, .slice none 0 0] 82)).alloc (.cells #[.pointer (some ⟨w.heap.size, 0, none⟩)] 33)) 3 (.int .i64 0)
    rw [hW0, World.size_alloc, World.size_alloc] at this
    exact this
  have C := hide (diskLines_new B p g D W0 (hd.new HB0))
  have hl := hd.len
  have Hd := hide hd
  have HW := hide hW0
  clear hW0 hd
  refine (callsIn_wide (n := 5)).1 ?_
  refine callsIn_of_wp_marks Tryz.func12 rfl trivial ?_ rfl
  simp only [Tryz.ntmps12, List.size_toArray, List.length_cons, List.length_nil, Nat.reduceAdd, Nat.reduceSub, Array.replicate_succ, Array.replicate_zero, List.push_toArray, List.append_toArray, List.nil_append, List.cons_append]
  refine wpIn_wide.2 ?_
  go_wp2_with fail
  go_step3
  go_wp2_with fail
  rw [HW.out]
  simp only [Nat.add_assoc, Nat.reduceAdd]
  go_step3
  go_wp2_with fail
  refine C.out.mono ?_
  rintro e w1 ⟨b, vs, rfl, hb, hbox, hrow, hB1⟩
  go_wp2_with fail
  have hB01 := HB0.trans (hB1.mono HB0.size)
  have s1 := hB1.size
  have hdl := Hd.out.lt
  have hon : ∀ k, onDisk p g k → k < w.heap.size := fun k hk => (Hd.out.on hk).2
  have i0 : InOpen w1 B p g (emptyS D) 0 w.heap.size w1.heap.size none := ⟨boxed_of_heap x1 (hB1.block _ (by omega)), boxed_of_heap x2 (hB1.block _ (by omega)), ⟨emptyS_ok D, hB, Nat.le_refl _, Hd.out.new hB01, .slice none 0 0, [], rfl, rfl, keepB x0 hB1, World.ownsRow_nil _ _ _ _, fun i h => absurd h (by simp)⟩, fun j h => by cases h⟩
  have hin : ∀ k, onDisk b vs.ownBlock k → k < w1.heap.size ∧ w.heap.size + 3 ≤ k := fun k hk => by
    rcases hk with rfl | e
    · exact ⟨ltAt hbox, by omega⟩
    · exact ⟨(hrow.lt k e).2, by have := (hrow.lt k e).1; omega⟩
  have Hin := hide hin
  have Hon := hide hon
  refine (wpIn_wide (n := 5)).1 ?_
  refine range_lawL (by decide) (gf := 49) (lb := #[.pointer (some ⟨b, 0, none⟩)]) rfl (enters_of Tryz.func49 (by kernel_rfl) rfl)
    (lines_seq 4 (by decide) b vs vs.ownBlock D.lines (by omega) w1 hbox rfl (ownsRow_low hrow (Nat.zero_le _))) keepsSeq_t (keepsSeq_b fun k hk => (hin k hk).1) (fun _ => rfl)
    (fun k W => (∃ S sg, OpenAt D k S ∧ InOpen W B p g S k w.heap.size w1.heap.size sg) ∧ Touch (onDisk p g) w W)
    (fun c k W => (c = .exit 0 ∧ ∃ S sg, OpenAt D k S ∧ runE (emptyS D) D.lines 0 = (S, k) ∧ InOpen W B p g S k w.heap.size w1.heap.size sg) ∧ Touch (onDisk p g) w W)
    (OwnFrom.and (Own.from (fun k X Y row hs hg hr => let ⟨S, sg, h1, h2⟩ := hs; ⟨S, sg, h1, h2.own hg hr⟩) _) (ownFrom_touch (by omega)))
    (fun c => OwnFrom.and (Own.from (fun k X Y row hs hg hr => let ⟨h0, S, sg, h1, h2, h3⟩ := hs; ⟨h0, S, sg, h1, h2, h3.own hg hr⟩) _) (ownFrom_touch (by omega)))
    ⟨⟨_, _, openAt_start D, i0⟩, touch_new hB01⟩
    (fun x => { tmps := #[.pointer (some ⟨p, 0, none⟩), undef, .pointer none, .int .i64 0, .pointer (some ⟨w.heap.size + 1, 0, none⟩), .pointer (some ⟨w.heap.size + 2, 0, none⟩), .int .i64 (x.1 : Int), .string x.2, undef, undef, .pointer (some ⟨p, 0, none⟩), .agg #[.pointer (some ⟨p, 0, none⟩), .int .i64 0, .int .i64 0, .slice none 0 0], .pointer (some ⟨w.heap.size, 0, none⟩), .pointer (some ⟨p, 0, none⟩), .func (.func 49) #[] #[.pointer (some ⟨b, 0, none⟩)], .int .i64 (x.1 : Int), .string x.2, undef, undef, undef, undef, undef, undef, undef, undef, undef, undef, undef, undef, undef, undef, undef, undef, undef, undef, undef, undef, undef, undef, undef, undef, undef, undef, undef, undef, undef], defers := [] }) ?assign ?body ?done ?stop
  case assign =>
    intro l x W K hK
    clear x0 x1 x2 hbox hrow i0
    dsimp only [encLine]
    gi_wp2
    exact hK
  case body =>
    clear x0 x1 x2 hbox hrow i0 hin hon C HW
    rintro lp k hk W ⟨⟨S, sg, hat, hin⟩, hT⟩
    rw [placed_get]
    have hk' : k < D.lines.length := by rw [placed_length] at hk; exact hk
    have hsz := bytesOf_mem (List.getElem_mem hk')
    have hWs : w1.heap.size ≤ W.heap.size := hin.seg.cl
    dsimp only
    cases hP : parseE (D.lines[k]).data.toList with
    | none =>
      have hR := openAt_none hat hk' hP
      obtain ⟨L, hL⟩ : ∃ L, (D.lines[k]).data.toList = L := ⟨_, rfl⟩
      have hLs : D.lines[k] = ⟨L.toArray⟩ := by rw [← hL]
      have hLl : L.length ≤ 1099511627776 := by rw [← hL, ← Lib.size_eq]; omega
      rw [hL] at hP
      rw [hLs]
      have u := hide (segParse_calls L W hLl)
      rw [hP] at u
      have I := hide hin
      have A := hide hat
      have HR := hide hR
      clear hin hat hR hL hLs hP
      gi_wp2_with (first | (refine ⟨trivial, ?_⟩; gi_at_call 38; refine (CallsIn.inRound lp ((callsIn_wide (n := _)).2 u.out)).mono ?_; rintro e w2 ⟨v, rfl, ⟨vc, vn, vs', vq, va, vm, vcap, vk, vz, rfl⟩, -, hb2⟩))
      refine ⟨trivial, ?_⟩
      gi_wp2_with fail
      have hb3 := hb2.alloc hb2.size (.cells #[.string vc, .int .i64 vn, .int .i64 vs', .int .i64 vq, .slice va vm vcap, .string vk, .string vz] 84)
      exact ⟨keepsFrom_new hb3, ⟨rfl, S, sg, A.out, HR.out, I.out.below hb3⟩, hT.new hb3⟩
    | some e =>
      have hE := parseE_ok hP
      obtain ⟨L, hL⟩ : ∃ L, (D.lines[k]).data.toList = L := ⟨_, rfl⟩
      have hLs : D.lines[k] = ⟨L.toArray⟩ := by rw [← hL]
      have hLl : L.length ≤ 1099511627776 := by rw [← hL, ← Lib.size_eq]; omega
      have hq : Hid (parseE (D.lines[k]).data.toList = some e) := hP
      rw [hL] at hP
      rw [hLs]
      have u := hide (segParse_calls L W hLl)
      rw [hP] at u
      have I := hide hin
      have A := hide hat
      clear hin hat hL hLs hP
      have hp1 := I.out.b1.lt
      have hp2 := I.out.b2.lt
      have c1 := I.out.b1.cell
      have c2 := I.out.b2.cell
      have um := hide (fun W' (h : Below W.heap.size W W') v' (hv' : IsEnt W' w1.heap.size v' e) => may_calls B _ _ S v' e W' (I.out.seg.keep h) hv')
      cases hM : mayS S e with
      | false =>
        rw [hM] at um
        gi_wp2_with (first | (refine ⟨trivial, ?_⟩; gi_at_call 38; refine (CallsIn.inRound lp ((callsIn_wide (n := _)).2 u.out)).mono ?_; rintro x w2 ⟨v, rfl, -, hent, hb2⟩; obtain ⟨vd, rfl, hrow⟩ := hent e rfl; obtain ⟨va, vcap, rfl⟩ := ownsRow_slice hrow; have d1 := (hb2.cell (p := ⟨w.heap.size + 1, 0, none⟩) hp1).trans c1; have hsw := hb2.size; have hq1 : w.heap.size + 1 < w2.heap.size := by omega))
        refine ⟨trivial, ?_⟩
        have hb3 := hb2.alloc hb2.size (.cells #[.string ⟨#[e.sign]⟩, .int .i64 e.n, .int .i64 e.r.site, .int .i64 e.r.seq, .slice va e.r.dep.length vcap, .string e.r.key, .string e.r.val] 84)
        refine (CallsIn.inRound lp ((callsIn_wide (n := _)).2 (um.out _ hb3 _ ⟨_, rfl, World.ownsRow.alloc (ownsRow_low hrow hWs) _⟩))).mono ?_
        rintro x w3 ⟨rfl, hb4⟩
        gi_wp2_with fail
        have hb5 := hb3.trans (hb4.mono hb3.size)
        exact ⟨keepsFrom_new hb5, ⟨rfl, S, sg, A.out, openAt_not A.out hk' hq.out hM, I.out.below hb5⟩, hT.new hb5⟩
      | true =>
        rw [hM] at um
        gi_wp2_with (first | (refine ⟨trivial, ?_⟩; gi_at_call 38; refine (CallsIn.inRound lp ((callsIn_wide (n := _)).2 u.out)).mono ?_; rintro x w2 ⟨v, rfl, -, hent, hb2⟩; obtain ⟨vd, rfl, hrow⟩ := hent e rfl; obtain ⟨va, vcap, rfl⟩ := ownsRow_slice hrow; have d1 := (hb2.cell (p := ⟨w.heap.size + 1, 0, none⟩) hp1).trans c1; have hsw := hb2.size; have hq1 : w.heap.size + 1 < w2.heap.size := by omega))
        refine ⟨trivial, ?_⟩
        have hb3 := hb2.alloc hb2.size (.cells #[.string ⟨#[e.sign]⟩, .int .i64 e.n, .int .i64 e.r.site, .int .i64 e.r.seq, .slice va e.r.dep.length vcap, .string e.r.key, .string e.r.val] 84)
        have y3 := World.alloc_heap_new w2 (.cells #[.string ⟨#[e.sign]⟩, .int .i64 e.n, .int .i64 e.r.site, .int .i64 e.r.seq, .slice va e.r.dep.length vcap, .string e.r.key, .string e.r.val] 84)
        refine (CallsIn.inRound lp ((callsIn_wide (n := _)).2 (um.out _ hb3 _ ⟨_, rfl, World.ownsRow.alloc (ownsRow_low hrow hWs) _⟩))).mono ?_
        rintro x w3 ⟨rfl, hb4⟩
        have hb5 := hb3.trans (hb4.mono hb3.size)
        have y5 := keepB y3 hb4
        obtain ⟨k0, k1, k2, k3, k4, k5, k6, -, -, -, -, -, -, -⟩ := cells7 y5
        have I5 := hide (I.out.below hb5)
        have d1' := I5.out.b1.cell
        have v5 : IsEnt w3 w1.heap.size (.agg #[.string ⟨#[e.sign]⟩, .int .i64 e.n, .int .i64 e.r.site, .int .i64 e.r.seq, .slice va e.r.dep.length vcap, .string e.r.key, .string e.r.val]) e := ⟨_, rfl, own_below (World.ownsRow.alloc (ownsRow_low hrow hWs) _) hb4⟩
        have ua := hide (apply_calls B _ S e _ k w3 I5.out.seg (by have := hb5.size; omega) v5 hM ⟨hE.1, hE.2.1, hE.2.2.1, fun h => ⟨hE.2.2.2.1 h, by rw [A.out.same]; have := A.out.len; omega⟩⟩ (by omega))
        clear y3 y5 v5 d1 c1 c2 hent hrow um u
        gi_wp2_with fail
        refine ⟨trivial, ?_⟩
        refine (CallsIn.inRound lp ((callsIn_wide (n := _)).2 ua.out)).mono ?_
        rintro x w4 ⟨rfl, sg4, I4, T4, G4⟩
        have T4' := hide T4
        have I4' := hide I4
        have G4' := hide G4
        clear T4 I4 G4 ua k0 k1 k2 k3 k4 k5 k6 d1'
        have hnot : ∀ j, w.heap.size + 1 ≤ j → j < w1.heap.size → ¬ (⟨w.heap.size, p, g, sg, w1.heap.size⟩ : SegM).on j := by
          intro j h1 h2 h3
          rcases h3 with h4 | h4 | h4
          · have h5 : j = w.heap.size := h4
            omega
          · have := I5.out.new j h4
            omega
          · have := Hon.out j h4
            omega
        have hsz4 := T4'.out.size
        have hs3 := hb5.size
        have e1 : Boxed w4 (w.heap.size + 1) 33 (.pointer (some ⟨w.heap.size, 0, none⟩)) := boxed_of_heap I5.out.b1 (T4'.out.block _ I5.out.b1.lt (hnot _ (by omega) (by omega)))
        have e2 : Boxed w4 (w.heap.size + 2) 3 (.int .i64 (k : Int)) := boxed_of_heap I5.out.b2 (T4'.out.block _ I5.out.b2.lt (hnot _ (by omega) (by omega)))
        have d2 := e2.cell
        have f2 := e2.frozen
        gi_wp2_with fail
        have hother : ∀ j, j ≠ w.heap.size + 2 → (w4.setCell ⟨w.heap.size + 2, 0, none⟩ (.int .i64 ((k : Int) + 1))).heap[j]? = w4.heap[j]? := fun j hj => Below.heap_setCell _ _ _ _ hj
        have G5 : ∀ j, sg4 = some j → w1.heap.size ≤ j := fun j hj => by
          rcases G4'.out j hj with h | h
          · exact I5.out.new j h
          · omega
        have I6 : InOpen (w4.setCell ⟨w.heap.size + 2, 0, none⟩ (.int .i64 ((k : Int) + 1))) B p g (applyS S e k) (k + 1) w.heap.size w1.heap.size sg4 := by
          refine ⟨boxed_of_heap e1 (hother _ (by omega)), e2.set _, I4'.out.off (by simp [World.setCell]) fun j hj h => hother j ?_, G5⟩
          rintro rfl
          rcases h with h | h
          · rcases h with h4 | h4 | h4
            · have h5 : w.heap.size + 2 = w.heap.size := h4
              omega
            · have := G5 _ h4
              omega
            · have := Hon.out _ h4
              omega
          · have h5 : w1.heap.size ≤ w.heap.size + 2 := h
            omega
        have T6 : Touch (onDisk p g) w w4 := by
          refine (hT.new hb5).next T4'.out fun i hi h => ?_
          rcases h with h4 | h4 | h4
          · have h5 : i = w.heap.size := h4
            omega
          · have := I5.out.new i h4
            omega
          · exact h4
        refine ⟨((keepsFrom_new hb5).trans (I5.out.seg.keepsFrom T4'.out)).trans ((KeepsOthers.setCell _ _ _).from _), fun j hj => ?_, ⟨_, _, openAt_step A.out hk' hq.out hM, I6⟩, T6.setNew _ _ (by simp)⟩
        have h1 := Hin.out j hj
        exact (hother j (by omega)).trans ((T4'.out.block j (by omega) (hnot j (by omega) h1.1)).trans (hb5.block j (by omega)))
  case done =>
    clear x0 x1 x2 hbox hrow i0 hin hon C HW
    rintro Dd W hD ⟨⟨S, sg, hat, hin⟩, hT⟩ hK
    rw [placed_length] at hat hin
    have hR := openAt_end hat
    have hS : openS D = S := by
      unfold openS
      rw [hR]
      dsimp only
      unfold openD
      rw [if_neg (by omega), ← hat.same]
    have c1 := hin.b1.cell
    have c2 := hin.b2.cell
    have u1 := hide (fun n => diskLen_to B p g S.D (D.lines.length : Int) (by rw [hat.same]) (W.drewN n) (hin.seg.disk.drews n))
    have I := hide hin
    have A := hide hat
    clear hin hR hat
    go_wp2_with fail
    go_quiet (first | (go_at_call 41; refine Calls.quiet_of_same (u1.out _)))
    go_wp2_with fail
    have K2 : (W.drewN nq).heap[Dd]? = some (.deferred (some [])) := hK
    refine ⟨by simp, .inl ⟨_, _, rfl, run_takeDeferred K2, ?_⟩⟩
    have hg := grownBy_putObj' (W.drewN nq) Dd (.deferred none)
    have hr : ∀ r, some Dd = some r → ∃ o : Obj, (W.drewN nq).heap[r]? = some o ∧ o.isCells = false := fun r e => by cases e; exact ⟨_, K2, rfl⟩
    refine ⟨.tuple #[.pointer (some ⟨w.heap.size, 0, none⟩), .int .i64 0], by simp [results, Tryz.f12, go_sem], ⟨w.heap.size, p, g, sg, w1.heap.size⟩, rfl, rfl, ?_, ownFrom_touch (β := Unit) (show w.heap.size ≤ w.heap.size from Nat.le_refl _) () _ _ _ (hT.drewN nq) hg fun r e => ⟨by cases e; omega, hr r e⟩, fun k hk => ?_⟩
    · rw [hS]
      exact (I.out.seg.drews nq).own hg hr
    · rcases hk with h4 | h4 | h4
      · exact .inr (Nat.le_of_eq h4.symm)
      · exact .inr (by have := I.out.new k h4; omega)
      · exact .inl h4
  case stop =>
    clear x0 x1 x2 hbox hrow i0 hin hon C HW
    rintro Dd c k W hD hk ⟨⟨rfl, S, sg, hat, hR, hin⟩, hT⟩ hK
    have hk' : k < D.lines.length := by rw [placed_length] at hk; exact hk
    have hS : openS D = { S with D := ⟨D.room, D.lines.take k, k⟩ } := by
      unfold openS
      rw [hR]
      dsimp only
      unfold openD
      rw [if_pos hk']
    have c1 := hin.b1.cell
    have c2 := hin.b2.cell
    have u1 := hide (fun n => diskLen_to B p g S.D (D.lines.length : Int) (by rw [hat.same]) (W.drewN n) (hin.seg.disk.drews n))
    have I := hide hin
    have A := hide hat
    clear hin hR hat
    have hkI : (k : Int) < (D.lines.length : Int) := by omega
    refine (wpIn_wide (n := 5)).2 ?_
    go_wp2_with fail
    go_quiet (first | (go_at_call 41; refine Calls.quiet_of_same (u1.out _)))
    go_wp2_with fail
    have u2 := diskSync_calls B p g S.D (W.drewN nq) (I.out.seg.disk.drews nq)
    refine u2.mono ?_
    rintro x w2 ⟨rfl, d2, t2⟩
    rw [A.out.same] at d2
    have hne : ∀ j, w.heap.size + 1 ≤ j → ¬ onDisk p g j := fun j hj h => by
      have := Hon.out j h
      omega
    have lt1 := I.out.b1.lt
    have lt2 := I.out.b2.lt
    have e1 : w2.cell? ⟨w.heap.size + 1, 0, none⟩ = _ := (World.cell?_of_block (w' := w2) (w := W.drewN nq) (a := ⟨w.heap.size + 1, 0, none⟩) (t2.block _ lt1 (hne _ (by simp)))).trans c1
    have e2 : w2.cell? ⟨w.heap.size + 2, 0, none⟩ = _ := (World.cell?_of_block (w' := w2) (w := W.drewN nq) (a := ⟨w.heap.size + 2, 0, none⟩) (t2.block _ lt2 (hne _ (by simp)))).trans c2
    have u3 := hide (diskCut_to B p g _ (k : Int) 0 ⟨D.room, D.lines.take k, k⟩ (cutE_all D k (by omega)) (cutD_all D k (by omega)) w2 d2)
    have t2' := hide t2
    have hs2 := t2.size
    have K2 : w2.heap[Dd]? = some (.deferred (some [])) := (t2.block Dd (ltAt hK) fun h => by
      have := Hon.out Dd h
      omega).trans hK
    clear u2 t2 d2 c1 c2 hK
    go_wp2_with (first | (go_at_call 42; refine u3.out.mono ?_; rintro x w3 ⟨rfl, d3, t3⟩; have e3 := (World.cell?_of_block (w' := w3) (w := w2) (a := ⟨w.heap.size + 1, 0, none⟩) (t3.block _ (World.block_lt_of_cell? _ _ e1) (hne _ (by simp)))).trans e1))
    have K3 : w3.heap[Dd]? = some (.deferred (some [])) := (t3.block Dd (ltAt K2) fun h => by
      have := Hon.out Dd h
      omega).trans K2
    refine ⟨by simp, .inl ⟨_, _, rfl, run_takeDeferred K3, ?_⟩⟩
    have hg := grownBy_putObj' w3 Dd (.deferred none)
    have hr : ∀ r, some Dd = some r → ∃ o : Obj, w3.heap[r]? = some o ∧ o.isCells = false := fun r e => by cases e; exact ⟨_, K3, rfl⟩
    have t23 : Touch (onDisk p g) (W.drewN nq) w3 := t2'.out.trans t3
    obtain ⟨I3, -, -⟩ := (I.out.seg.drews nq).disk_goes d3 t23 (by have := A.out.len; simp; omega) (fun _ h => .inl h)
    refine ⟨.tuple #[.pointer (some ⟨w.heap.size, 0, none⟩), .int .i64 0], by simp [results, Tryz.f12, go_sem], ⟨w.heap.size, p, g, sg, w1.heap.size⟩, rfl, rfl, ?_, ownFrom_touch (β := Unit) (show w.heap.size ≤ w.heap.size from Nat.le_refl _) () _ _ _ ((hT.drewN nq).trans t23) hg fun r e => ⟨by cases e; omega, hr r e⟩, fun k hk => ?_⟩
    · rw [hS]
      exact I3.own hg hr
    · rcases hk with h4 | h4 | h4
      · exact .inr (Nat.le_of_eq h4.symm)
      · exact .inr (by have := I.out.new k h4; omega)
      · exact .inl h4

end Go.Proofs.YtncmocmmkbmmjaaGreatDoor

/- seg's All, and the sequence that it answers. Own work; no statement. -/
set_option linter.unusedSimpArgs false
set_option linter.unusedVariables false
namespace Go.Proofs.YtncmocmmkbmmjaaGreatDoor
open Go.RowKit Go.Shelf Go.Sort

attribute [local go_sem] Oper.semAt_some

/-- A box with a row of its own of slots: what All goes over. -/
structure IsSlots (w : World) (b c : Nat) (v : Value) (qs : List Nat) (l : List SlotD) : Prop where
  box : w.heap[b]? = some (.cells #[v] 80 (0, 0))
  row : w.ownsRow 0 106 1 v qs.length (qs.map ptrV)
  len : qs.length = l.length
  each : ∀ i (h : i < qs.length) (h' : i < l.length), SlotAt w c qs[i] l[i]

theorem IsSlots.span {w w' : World} {b c : Nat} {v : Value} {qs : List Nat} {l : List SlotD} (h : IsSlots w b c v qs l) (hk : ∀ k, k < w.heap.size → w'.heap[k]? = w.heap[k]?) : IsSlots w' b c v qs l := by
  refine ⟨(hk b (ltAt h.box)).trans h.box, ownsRow_of_heap h.row fun k e => hk k (h.row.lt k e).2, h.len, fun i h1 h2 => ?_⟩
  obtain ⟨vd, x1, x2, x3⟩ := h.each i h1 h2
  exact ⟨vd, x1, (hk _ (ltAt x2)).trans x2, ownsRow_of_heap x3 fun k e => hk k (x3.lt k e).2⟩

set_option maxHeartbeats 2000000 in
theorem segAll_calls (B : Nat) (m : SegM) (S : SegD) (w : World) (hd : IsSeg w B m S) :
    Calls Tryz.prog 23 #[.pointer (some ⟨m.p, 0, none⟩)] w fun e w' => ∃ b v qs, e = .returned (.func (.func 56) #[] #[.pointer (some ⟨b, 0, none⟩)]) ∧ IsSlots w' b m.c v qs S.slots ∧ Below w.heap.size w w' := by
  have hmf : ∀ (fn : Fn) (first cap : Array Value) (w : World), (Instr.makeFunc fn first cap).run Tryz.prog w = .ok (.func fn first cap) w := fun _ _ _ _ => rfl
  obtain ⟨v, qs, hv, hl, hp, hr, hs⟩ := hd.val
  have hlen := hd.disk.len
  have hfew := hd.ok.few
  obtain ⟨a, cap, rfl⟩ := ownsRow_slice hr
  have C := hide (cloneSlots_calls B _ qs w hr (by omega))
  have c3 := (cells4 hp).2.2.2.1
  have Hs := hide hs
  have Hl := hide hl
  clear hd hr hp hv hs hl
  go_enter Tryz.func23, Tryz.ntmps23
  go_wp2_with fail
  refine C.out.mono ?_
  rintro e w1 ⟨v', rfl, hown, hB1⟩
  obtain ⟨a', cap', rfl⟩ := ownsRow_slice hown
  go_wp2_with fail
  go_ret
  have hB2 := hB1.alloc hB1.size (.cells #[.slice a' qs.length cap'] 80)
  exact ⟨w1.heap.size, .slice a' qs.length cap', qs, rfl, ⟨World.alloc_heap_new w1 _, ownsRow_low (World.ownsRow.alloc hown _) (Nat.zero_le _), Hl.out, fun i h1 h2 => (Hs.out i h1 h2).below hB2⟩, hB2⟩

set_option maxRecDepth 100000 in
set_option maxHeartbeats 4000000 in
theorem segAll1_in (n : Nat) (hn : 1 ≤ n) (lp b c hi : Nat) (v : Value) (qs : List Nat) (l : List SlotD) (hlen : l.length ≤ 1048576) (hd : ∀ p ∈ l, p.r.dep.length ≤ 17592186044416) (J Jx : List Pl → World → Prop)
    (hY : ∀ pre x A W, J pre A → GivesPl x A W → pre.length < l.length → YieldAt Fence.wide (n - 1) Tryz.prog lp (encPl x) W fun e W' =>
      (e = .returned (.bool true) ∧ J (pre ++ [x]) W' ∧ KeepsSpan 0 hi W W') ∨ (e = .returned (.bool false) ∧ Jx (pre ++ [x]) W'))
    (W : World) (hhi : hi ≤ W.heap.size) (hpos : 0 < hi) (hbl : ∀ W', KeepsSpan 0 hi W W' → IsSlots W' b c v qs l) (h0 : J [] W) :
    CallsIn Fence.wide n Tryz.prog 56 #[.func (.yield lp) #[] #[], .pointer (some ⟨b, 0, none⟩)] W fun e W' => (∃ v, e = .returned v) ∧
      ((∃ ys, ys.map (fun p => (p.i, p.r)) = l.map (fun p => (p.pos, p.r)) ∧ J ys W') ∨ (∃ pre, pre.map (fun p => (p.i, p.r)) <+: l.map (fun p => (p.pos, p.r)) ∧ Jx pre W')) := by
  refine callsIn_of_wp Tryz.func56 rfl trivial ?_ rfl
  simp only [Tryz.ntmps56, List.size_toArray, List.length_cons, List.length_nil, Nat.reduceAdd, Nat.reduceSub, Array.replicate_succ, Array.replicate_zero, List.push_toArray, List.append_toArray, List.nil_append, List.cons_append]
  have hA := hbl W (fun _ _ _ => rfl)
  have hql := hA.len
  obtain ⟨va, vcap, rfl⟩ := ownsRow_slice hA.row
  have HY := hide hY
  have Hbl := hide hbl
  have Hd := hide hd
  have hbc := cellsAt hA.box 0
  simp only [List.getElem?_toArray, List.getElem?_cons_zero] at hbc
  rw [hql] at hbc
  have Hql := hide hql
  clear hY hbl hd hA hql
  gi_wp2
  clear hbc
  gi_loopw [7] (fun i wr => ∃ (k : Nat) (pre : List Pl), k ≤ l.length ∧ i = .int .i64 (k : Int) ∧ pre.map (fun p => (p.i, p.r)) = (l.take k).map (fun p => (p.pos, p.r)) ∧ J pre wr ∧ KeepsSpan 0 hi W wr) (fun i _ => l.length - (intOf i).toNat)
  case atStart => exact ⟨0, [], Nat.zero_le _, rfl, rfl, h0, fun _ _ _ => rfl⟩
  case round =>
    obtain ⟨k, pre, hk, rfl, hpre, hJs, hks⟩ := hrel
    have hsz := hks.size hhi hpos
    by_cases hlt : k < l.length
    · have hltI : (k : Int) < (l.length : Int) := by omega
      have hofr := Hbl.out wr hks
      have hkq : k < qs.length := by have := Hql.out; omega
      obtain ⟨vd, -, hq, hrow⟩ := hofr.each k hkq hlt
      rcases hofr.row.2 with ⟨e1, e2⟩ | ⟨g, cap', cur, e1, hgb, hg, hnc, hcm, hcs, htk⟩
      · omega
      · obtain ⟨rfl, rfl⟩ : va = some ⟨g, 0, none⟩ ∧ vcap = cap' := by simp at e1; exact e1
        have cq : wr.cell? ⟨g, k, none⟩ = some (.pointer (some ⟨qs[k], 0, none⟩)) := by
          rw [hofr.row.cellAt k (by omega)]
          simp [ptrV, hkq]
        have hmem := List.getElem_mem hlt
        have hdl := Hd.out _ hmem
        have htk2 : (l.take (k + 1)).map (fun p => (p.pos, p.r)) = (l.take k).map (fun p => (p.pos, p.r)) ++ [((l[k]).pos, (l[k]).r)] := by rw [List.take_succ_eq_append_getElem hlt, List.map_append]; rfl
        obtain ⟨p, hp⟩ : ∃ p, l[k] = p := ⟨_, rfl⟩
        rw [hp] at hq hrow hdl htk2
        obtain ⟨pi, ln, ⟨site, seq, dep, key, val⟩⟩ := p
        generalize qs[k] = q at *
        dsimp only at *
        obtain ⟨da, dcap, rfl⟩ := ownsRow_slice hrow
        obtain ⟨c0, -, c2, c3, c4, c5, c6, -, -, -, -, -, -, -⟩ := cells7 hq
        have HB1 : Below wr.heap.size wr wr.drew := (Below.refl _ wr).drew
        have C := hide (segCopied_calls (.agg #[.int .i64 site, .int .i64 seq, .slice da dep.length dcap, .string key, .string val]) ⟨site, seq, dep, key, val⟩ wr.drew ⟨da, dcap, rfl, (IsNums.of_row hrow).below HB1⟩ hdl)
        have Y0 := hide (show wr.drew.heap[q]? = _ from hq)
        have hplen : pre.length = k := by have := congrArg List.length hpre; simpa [Nat.min_eq_left hk] using this
        have HB2 := hide HB1
        have Htk2 := hide htk2
        have Hpre := hide hpre
        have Hpl := hide hplen
        clear hofr hg hnc hcm hcs htk hrow hp hq HB1 htk2 hpre hplen e1
        gi_wp2
        gi_region_with (first | (refine ⟨trivial, ?_⟩; gi_at_call 57; refine ((callsIn_wide (n := _)).2 C.out).mono ?_; rintro e w3 ⟨v', rfl, hrecw, hb⟩; obtain ⟨vd', rfl, hvd'⟩ := hrecw; obtain ⟨va', vcap', rfl⟩ := ownsRow_slice hvd'; have hB3 := HB2.out.trans (hb.mono HB2.out.size); obtain ⟨fn, tmps, assign, body, hy, hR⟩ := HY.out pre ⟨pi, ⟨site, seq, dep, key, val⟩, .slice va' dep.length vcap'⟩ wr w3 hJs ⟨hB3, hvd', hdl⟩ (by have := Hpl.out; omega); dsimp only [encPl] at hy; have d0 := (cells7 (keepB Y0.out hb)).1) | (refine hR.mono ?_; rintro e W4 hW4; obtain ⟨b, rfl, hb4⟩ := yield_bool hW4))
        all_goals
          rcases hb4 with ⟨rfl, hJ4, hk4⟩ | ⟨rfl, hJx4⟩
          · gi_wp2
            exact ⟨⟨k + 1, _, by omega, by go_num, by rw [List.map_append, Hpre.out, Htk2.out]; rfl, hJ4, keepsSpan_t hks (keepsSpan_t (KeepsSpan.of_below hB3 hsz) hk4)⟩, by simp [intOf]; omega⟩
          · gi_wp2
            refine bodyPost_ret (results_none rfl _ _ _) rfl ?_
            refine ⟨⟨_, rfl⟩, .inr ⟨_, ?_, hJx4⟩⟩
            rw [List.map_append, Hpre.out]
            refine ⟨(l.drop (k + 1)).map (fun p => (p.pos, p.r)), ?_⟩
            have e := Htk2.out
            simp only [List.map_cons, List.map_nil]
            rw [← e, ← List.map_append, List.take_append_drop]
    · obtain rfl : k = l.length := by omega
      gi_wp2
      go_end0
      exact ⟨⟨_, rfl⟩, .inl ⟨pre, by rw [hpre, List.take_of_length_le (Nat.le_refl _)], hJs⟩⟩

/-- What All answers: a sequence that goes over the records, rising, as long as it is asked. -/
theorem segAll_stops (n : Nat) (hn : 1 ≤ n) (b c : Nat) (v : Value) (qs : List Nat) (l : List SlotD) (hlen : l.length ≤ 1048576) (hd : ∀ p ∈ l, p.r.dep.length ≤ 17592186044416) (w0 w : World) (hA : IsSlots w0 b c v qs l) (hw : Below w0.heap.size w0 w) :
    SeqR n Tryz.prog 56 #[.pointer (some ⟨b, 0, none⟩)] encPl (KeepsSpan 0 w0.heap.size) GivesPl (fun ys => ys.map (fun p => (p.i, p.r)) = l.map (fun p => (p.pos, p.r)))
      (fun pre => pre.map (fun p => (p.i, p.r)) <+: l.map (fun p => (p.pos, p.r))) l.length w := fun lp J Jx W hW hY h0 =>
  have hW0 : Below w0.heap.size w0 W := hw.trans (hW.mono hw.size)
  segAll1_in n hn lp b c w0.heap.size v qs l hlen hd J Jx hY W hW0.size (Nat.lt_of_le_of_lt (Nat.zero_le _) (ltAt hA.box))
    (fun W' hk => hA.span fun k h2 => (hk k (Nat.zero_le _) h2).trans (hW0.block k h2)) h0

end Go.Proofs.YtncmocmmkbmmjaaGreatDoor

/- The laws' Rows over any sequence of numbers and records: what it tells, the records too. Own work; no statement. -/
set_option linter.unusedSimpArgs false
set_option linter.unusedVariables false
namespace Go.Proofs.YtncmocmmkbmmjaaGreatDoor
open Go.RowKit Go.Shelf Go.Sort

attribute [local go_sem] Oper.semAt_some

/-- The records' numbers lie in rows of their own, none of which is va's. -/
def DepsIn (o : Nat) (W : World) (va : Value) (l : List Pl) : Prop := ∀ p ∈ l, W.ownsRow (o + 6) 3 1 p.vd p.r.dep.length (p.r.dep.map (Value.int .i64)) ∧ ∀ k, p.vd.ownBlock = some k → va.ownBlock ≠ some k
theorem DepsIn.keep {o : Nat} {W W' : World} {va : Value} {l : List Pl} (h : DepsIn o W va l) (hk : ∀ (k : Nat) (c : Array Value) (t : TypeId) (f : Nat × Nat), W.heap[k]? = some (.cells c t f) → W'.heap[k]? = W.heap[k]?) : DepsIn o W' va l :=
  fun p hp => ⟨row_keep hk (h p hp).1, (h p hp).2⟩

theorem flat5 : ∀ (pl : List Pl) (k j : Nat) (h : k < pl.length), j < 5 → (pl.flatMap Pl.cells5)[k * 5 + j]? = (pl[k]).cells5[j]?
  | [], _, _, h, _ => absurd h (by simp)
  | p :: pl, 0, j, _, hj => by
    rw [List.flatMap_cons, List.getElem?_append_left (by simp [Pl.cells5]; omega)]
    simp
  | p :: pl, k + 1, j, h, hj => by
    rw [List.flatMap_cons, List.getElem?_append_right (by simp [Pl.cells5]; omega)]
    have e : (k + 1) * 5 + j - p.cells5.length = k * 5 + j := by simp [Pl.cells5]; omega
    rw [e, flat5 pl k j (by simpa using h) hj]
    simp

/-- A row of records, each one's numbers in a row of their own, read. -/
theorem recs_of_row {w : World} {o : Nat} {v : Value} {l : List Pl} (h : w.ownsRow o 57 5 v l.length (l.flatMap Pl.cells5)) (hd : ∀ p ∈ l, w.ownsRow o 3 1 p.vd p.r.dep.length (p.r.dep.map (Value.int .i64))) : IsRecs w v (l.map (·.r)) := by
  obtain ⟨a, cap, rfl⟩ := ownsRow_slice h
  refine ⟨a, cap, by simp, fun t ht => ?_⟩
  have ht' : t < l.length := by simpa using ht
  rcases h.2 with ⟨e1, e2⟩ | ⟨g, cap', cur, e1, -⟩
  · omega
  · simp only [Value.slice.injEq] at e1
    obtain ⟨rfl, -, rfl⟩ := e1
    have hdep := hd _ (List.getElem_mem ht')
    have hcell : ∀ j, j < 5 → w.cell? ⟨g, t * 5 + j, none⟩ = (l[t]).cells5[j]? := fun j hj => by
      rw [h.cellAt (t * 5 + j) (by omega)]
      exact flat5 l t j ht' hj
    have c0 := hcell 0 (by omega)
    have c1 := hcell 1 (by omega)
    have c2 := hcell 2 (by omega)
    have c3 := hcell 3 (by omega)
    have c4 := hcell 4 (by omega)
    simp only [Pl.cells5, List.getElem?_cons_zero, List.getElem?_cons_succ, Nat.add_zero] at c0 c1 c2 c3 c4
    obtain ⟨da, dcap, hda⟩ := ownsRow_slice hdep
    rw [hda] at c2 hdep
    refine ⟨g, 0, rfl, da, dcap, ?_⟩
    simp only [List.getElem_map, Nat.zero_add]
    exact ⟨c0, c1, c2, c3, c4, IsNums.of_row hdep⟩

set_option maxRecDepth 100000 in
set_option maxHeartbeats 4000000 in
theorem rowsG_calls (gf : Nat) (lb : Array Value) (hi0 : Nat) (pl : List (Int × RecD)) (most : Nat) (w : World) (hhi : hi0 ≤ w.heap.size) (heg : ∀ args w, (callFunc gf args).run Tryz.prog w = .ok (.enter gf args) w)
    (hseq : ∀ w', Below w.heap.size w w' → SeqR 4 Tryz.prog gf lb encPl (KeepsSpan 0 hi0) GivesPl (fun ys => ys.map (fun p => (p.i, p.r)) = pl) (fun pre => pre.map (fun p => (p.i, p.r)) <+: pl) pl.length w') (hl : pl.length ≤ most) (hm : most ≤ 1048576) :
    Calls Tryz.prog 22 #[.func (.func gf) #[] lb, .int .i64 (most : Int)] w fun e w' => ∃ va vb, e = .returned (.tuple #[va, vb, .bool true]) ∧
      IsNums .i64 w' va (pl.map (·.1)) ∧ IsRecs w' vb (pl.map (·.2)) ∧ Below w.heap.size w w' := by
  have heq : ∀ (fn : Fn) (first cap : Array Value) (w : World), (binOp .eql 63 (.func fn first cap) .nilFunc).run Tryz.prog w = .ok (.bool false) w := fun _ _ _ _ => by kernel_rfl
  obtain ⟨i0, hi, hz0, hz1, hz2⟩ := info_parts Tryz.info3
  obtain ⟨j0, ji, jz0, jz1, jz2⟩ := info_parts Tryz.info57
  refine (callsIn_wide (n := 5)).1 ?_
  refine callsIn_of_wp_marks Tryz.func22 rfl trivial ?_ rfl
  simp only [Tryz.ntmps22, List.size_toArray, List.length_cons, List.length_nil, Nat.reduceAdd, Nat.reduceSub, Array.replicate_succ, Array.replicate_zero, List.push_toArray, List.append_toArray, List.nil_append, List.cons_append]
  gi_wp2
  have b0 := Boxed.new w 3 (.int .i64 (most : Int))
  obtain ⟨w1', hw1⟩ : ∃ w', w.alloc (.cells #[.int .i64 (most : Int)] 3) = w' := ⟨_, rfl⟩
  have s1 : w1'.heap.size = w.heap.size + 1 := by rw [← hw1]; simp
  have b1 := Boxed.new w1' 54 (.slice none 0 0)
  obtain ⟨w2', hw2⟩ : ∃ w', w1'.alloc (.cells #[.slice none 0 0] 54) = w' := ⟨_, rfl⟩
  have s2 : w2'.heap.size = w.heap.size + 2 := by rw [← hw2]; simp [s1]
  have b2 := Boxed.new w2' 59 (.slice none 0 0)
  obtain ⟨w3', hw3⟩ : ∃ w', w2'.alloc (.cells #[.slice none 0 0] 59) = w' := ⟨_, rfl⟩
  have s3 : w3'.heap.size = w.heap.size + 3 := by rw [← hw3]; simp [s2]
  have b3 := Boxed.new w3' 4 (.bool false)
  obtain ⟨w4', hw4⟩ : ∃ w', w3'.alloc (.cells #[.bool false] 4) = w' := ⟨_, rfl⟩
  have s4 : w4'.heap.size = w.heap.size + 4 := by rw [← hw4]; simp [s3]
  have b4 := Boxed.new w4' 54 (.slice none 0 0)
  obtain ⟨w5', hw5⟩ : ∃ w', w4'.alloc (.cells #[.slice none 0 0] 54) = w' := ⟨_, rfl⟩
  have s5 : w5'.heap.size = w.heap.size + 5 := by rw [← hw5]; simp [s4]
  have b5 := Boxed.new w5' 59 (.slice none 0 0)
  obtain ⟨w6', hw6⟩ : ∃ w', w5'.alloc (.cells #[.slice none 0 0] 59) = w' := ⟨_, rfl⟩
  have s6 : w6'.heap.size = w.heap.size + 6 := by rw [← hw6]; simp [s5]
  rw [hw1] at b0
  rw [hw2] at b1
  rw [hw3] at b2
  rw [hw4] at b3
  rw [hw5] at b4
  rw [hw6] at b5
  replace b0 : Boxed w6' w.heap.size 3 (.int .i64 (most : Int)) := by rw [← hw6, ← hw5, ← hw4, ← hw3, ← hw2]; exact (((((b0).alloc _).alloc _).alloc _).alloc _).alloc _
  replace b1 : Boxed w6' (w.heap.size + 1) 54 (.slice none 0 0) := by rw [s1] at b1; rw [← hw6, ← hw5, ← hw4, ← hw3]; exact ((((b1).alloc _).alloc _).alloc _).alloc _
  replace b2 : Boxed w6' (w.heap.size + 2) 59 (.slice none 0 0) := by rw [s2] at b2; rw [← hw6, ← hw5, ← hw4]; exact (((b2).alloc _).alloc _).alloc _
  replace b3 : Boxed w6' (w.heap.size + 3) 4 (.bool false) := by rw [s3] at b3; rw [← hw6, ← hw5]; exact ((b3).alloc _).alloc _
  replace b4 : Boxed w6' (w.heap.size + 4) 54 (.slice none 0 0) := by rw [s4] at b4; rw [← hw6]; exact (b4).alloc _
  replace b5 : Boxed w6' (w.heap.size + 5) 59 (.slice none 0 0) := by rw [s5] at b5; exact b5
  have hB6 : Below w.heap.size w w6' := by
    rw [← hw6, ← hw5, ← hw4, ← hw3, ← hw2, ← hw1]
    exact ((((((Below.refl _ w).alloc (Nat.le_refl _) _).alloc (by simp) _).alloc (by simp; omega) _).alloc (by simp; omega) _).alloc (by simp; omega) _).alloc (by simp; omega) _
  rw [hw1, hw2, hw3, hw4, hw5, hw6]
  clear hw1 hw2 hw3 hw4 hw5 hw6 s1 s2 s3 s4 s5 w1' w2' w3' w4' w5'
  simp only [Nat.add_assoc, Nat.reduceAdd]
  refine range_lawR (by decide) (gf := gf) (lb := lb) rfl heg
    (hseq w6' hB6) keepsSpan_t (keepsSpan_b (by omega)) ?hE (fun _ => rfl)
    (fun pre W => (∃ va vb, InRows w.heap.size most pre pre W va vb ∧ DepsIn w.heap.size W va pre) ∧ Below w.heap.size w W)
    (fun _ _ _ => False)
    (OwnFrom.and (Own.from (fun s X Y row hs hg hr => by
      obtain ⟨va, vb, h, h'⟩ := hs
      exact ⟨va, vb, h.keep fun k c t f e => own_keeps hg hr e, h'.keep fun k c t f e => own_keeps hg hr e⟩) _) (ownFrom_below (Nat.le_refl _) (by omega)))
    (fun _ _ _ _ _ hs _ _ => hs)
    ⟨⟨_, _, ⟨b0, b1, b2, b3, b4, b5, World.ownsRow_nil _ _ _ _, World.ownsRow_nil _ _ _ _⟩, fun p hp => (by cases hp)⟩, hB6⟩
    (fun x A a' W => ∃ Bx va vc, Below A.heap.size A W ∧ x.vd = .slice va x.r.dep.length vc ∧ A.heap.size ≤ Bx ∧ W.ownsRow A.heap.size 3 1 x.vd x.r.dep.length (x.r.dep.map (Value.int .i64)) ∧ W.heap[Bx]? = some (.cells #[.int .i64 x.r.site, .int .i64 x.r.seq, x.vd, .string x.r.key, .string x.r.val] 57 (0, 0)) ∧ a' = { tmps := #[.func (.func gf) #[] lb, .int .i64 (most : Int), undef, .pointer (some ⟨w.heap.size, 0, none⟩), .pointer (some ⟨w.heap.size + 1, 0, none⟩), .pointer (some ⟨w.heap.size + 2, 0, none⟩), .pointer (some ⟨w.heap.size + 3, 0, none⟩), .pointer (some ⟨w.heap.size + 4, 0, none⟩), .pointer (some ⟨w.heap.size + 5, 0, none⟩), .int .i64 x.i, .pointer (some ⟨Bx, 0, none⟩), .func (.func gf) #[] lb, .bool false, .func (.func gf) #[] lb, .int .i64 x.i, .agg #[.int .i64 x.r.site, .int .i64 x.r.seq, x.vd, .string x.r.key, .string x.r.val], undef, undef, undef, undef, undef, undef, undef, undef, undef, undef, undef, undef, undef, undef, undef, undef], defers := [] })
    ?hAp ?assign ?body ?done ?stop
  case hE => exact fun x A W h => keepsFrom_below h.1
  case hAp =>
    rintro x A a' W l o o' ⟨Bx, va, vc, h1, h2, h3, h6, h4, h5⟩ _ hAl hWl ho
    refine ⟨Bx, va, vc, below_put h1, h2, by simpa [World.putObj] using h3, ?_, ?_, h5⟩
    · rw [show (A.putObj l o').heap.size = A.heap.size by simp [World.putObj]]
      refine row_keep (fun k c t f e => ?_) h6
      have hne : l ≠ k := by
        rintro rfl
        rw [e] at hWl
        cases hWl
        cases ho
      unfold World.putObj
      simp only [Array.getElem?_setIfInBounds]
      rw [if_neg hne]
    have hne : l ≠ Bx := by
      intro e
      rw [e, h4] at hWl
      cases hWl
      cases ho
    unfold World.putObj
    simp only [Array.getElem?_setIfInBounds]
    rw [if_neg hne]
    exact h4
  case assign =>
    clear b0 b1 b2 b3 b4 b5
    rintro l pre ⟨xi, ⟨site, seq, dep, key, val⟩, vd⟩ A W K hI hE hlt hK
    have hE2 := hE.2.1
    have hE1 := hE.1
    dsimp only [encPl] at *
    obtain ⟨va, vc, rfl⟩ := ownsRow_slice hE2
    have HE2 := hide hE2
    clear hE
    replace hK := hide hK
    have hz1 := hI.2.size
    have hz2' := hE1.size
    have HE1 := hide hE1
    clear hE1 hI hE2
    gi_wp2
    exact hK.out _ _ ⟨W.heap.size, va, vc, HE1.out.alloc HE1.out.size _, rfl, HE1.out.size, World.ownsRow.alloc HE2.out _, World.alloc_heap_new W _, rfl⟩ (keepsFrom_below (box_below W _)) (KeepsSpan.of_below (box_below W _) (by omega))
  case body =>
    clear b0 b1 b2 b3 b4 b5
    rintro lp pre x A a' W ⟨⟨va0, vb0, hin0, hdp0⟩, hBA⟩ ⟨Bx, va, vc, hAW, hvd, hBx, hxr, hbx, rfl⟩ hlt
    have hin := hin0.below hAW
    have hB := hBA.trans (hAW.mono hBA.size)
    have hA6 := hin0.b.lt
    have hbxl := ltB hbx
    have hdp : Hid (DepsIn w.heap.size W va0 (pre ++ [x])) := by
      intro p hp
      rcases List.mem_append.1 hp with h1 | h1
      · exact ⟨own_below (hdp0 p h1).1 hAW, (hdp0 p h1).2⟩
      · obtain rfl : p = x := by simpa using h1
        refine ⟨ownsRow_low hxr (by omega), fun k hk e => ?_⟩
        have q1 := (hxr.lt k hk).1
        have q2 := (hin0.ra.lt k e).2
        omega
    have nra : va0.ownBlock ≠ some Bx := fun e => by have := (hin0.ra.lt Bx e).2; omega
    have nrb : vb0.ownBlock ≠ some Bx := fun e => by have := (hin0.rb.lt Bx e).2; omega
    have hvd3 : ∀ u ∈ [Value.int .i64 x.r.site, .int .i64 x.r.seq, .slice va x.r.dep.length vc, .string x.r.key, .string x.r.val], u.oneCell' = true := by
      have := five_one hvd
      unfold Pl.cells5 at this
      rwa [hvd] at this
    have hc5 := hide (show x.cells5 = [Value.int .i64 x.r.site, .int .i64 x.r.seq, .slice va x.r.dep.length vc, .string x.r.key, .string x.r.val] by unfold Pl.cells5; rw [hvd])
    rw [hvd] at hbx ⊢
    obtain ⟨pa, ca, rfl⟩ := ownsRow_slice hin.ra
    obtain ⟨pb, cb, rfl⟩ := ownsRow_slice hin.rb
    have y0 := cell_at hbx 0
    have y1 := cell_at hbx 1
    have y2 := cell_at hbx 2
    have y3 := cell_at hbx 3
    have y4 := cell_at hbx 4
    simp only [List.getElem?_toArray, List.getElem?_cons_zero, List.getElem?_cons_succ] at y0 y1 y2 y3 y4
    have c1 := hin.a.cell
    have c2 := hin.b.cell
    have c3 := hin.m.cell
    have hlt2 : (pre.length : Int) < (most : Int) := by omega
    have hbs := hB.size
    have hW6 := hin.b.lt
    have Hin := hide hin
    have Hbx := hide hbx
    have HB := hide hB
    have Hvd := hide hvd
    clear hin hbx hB hin0 hAW hvd hdp0 hxr
    gi_wp2_with (first
      | (gi_at_builtin; refine wpListIn_append_own_at _ rfl (.tmp 22) _ 54 rfl (w.heap.size + 6) 3 i0 (.int .i64 0) 1 8 Tryz.underlying54 hi hz0 hz1 hz2 rfl (by decide) _ _ _ rfl (World.ownsRow.alloc Hin.out.ra _) ⟨_, 0, none⟩ 1 1 [.int .i64 x.i] rfl rfl (cell_one_at (by simp)) (by intro u hu; simp at hu; subst hu; rfl) (by unfold maxLen; omega) (by omega) (by simp; omega) ?_; intro v1 w1 hown1 hgrow1 _ hat1; obtain ⟨g1, cap1, rfl⟩ := ownsRow_succ hown1; obtain ⟨bx1, hin1, k1, o1, l1⟩ := Hin.out.appA (p := x) hown1 hgrow1; have d1 := bx1.cell; have f1 := bx1.frozen; have d2 := hin1.b.cell; have hbx1 := (o1 Bx hbxl (by omega) nra).trans Hbx.out; have q0 := cell_at hbx1 0; have q1 := cell_at hbx1 1; have q2 := cell_at hbx1 2; have q3 := cell_at hbx1 3; have q4 := cell_at hbx1 4; simp only [List.getElem?_toArray, List.getElem?_cons_zero, List.getElem?_cons_succ] at q0 q1 q2 q3 q4; have hs1 := k1.size; rw [size_set] at hs1; have Hin1 := hide hin1; have Hl1 := hide l1; have Ho1 := hide o1; have Hat1 := hide hat1; clear hgrow1 hat1 hown1 hin1 l1 o1 hbx1)
      | (gi_at_builtin; refine wpListIn_append_own_at _ rfl (.tmp 26) _ 59 rfl (w.heap.size + 6) 57 j0 _ 5 72 Tryz.underlying59 ji jz0 jz1 jz2 rfl (by decide) _ _ _ rfl (World.ownsRow.alloc Hin1.out.rb _) ⟨_, 0, none⟩ 1 1 [.int .i64 x.r.site, .int .i64 x.r.seq, .slice va x.r.dep.length vc, .string x.r.key, .string x.r.val] rfl rfl (cells_new (by simp)) (by intro u hu; exact hvd3 u hu) (by unfold maxLen; omega) (by omega) (by simp; omega) ?_; intro v2 w2 hown2 hgrow2 _ hat2; obtain ⟨g2, cap2, rfl⟩ := ownsRow_succ hown2; obtain ⟨bx2, hin2, k2, o2, l2⟩ := Hin1.out.appB (p := x) (by rw [hc5.out]; exact hown2) hgrow2; have e1 := bx2.cell; have f2 := bx2.frozen; clear hgrow2 hat2 hown2))
    have hB2 := l2 w.heap.size w (by omega) (Hl1.out w.heap.size w (by omega) HB.out)
    refine ⟨(k1.trans k2).from _, fun k h1 h2 => ?_, ⟨_, _, hin2, fun p hp => ?_⟩, hB2⟩
    · have hk : k < w.heap.size := by omega
      rw [hB2.block k hk, HB.out.block k hk]
    · obtain ⟨q1, q2⟩ := hdp.out p hp
      have ho1 := Ho1.out
      have hn : ∀ k, p.vd.ownBlock = some k → (Value.slice (some ⟨g1, 0, none⟩) (pre.length + 1) cap1).ownBlock ≠ some k := fun k hk e => by
        rcases Hat1.out with h3 | h3
        · exact q2 k hk (h3.symm.trans e)
        · have h4 : some (W.alloc _).heap.size = some k := h3.symm.trans e
          have h5 := (q1.lt k hk).2
          simp at h4
          omega
      refine ⟨ownsRow_of_heap q1 fun k hk => ?_, hn⟩
      have h5 := q1.lt k hk
      have hrb := Hin1.out.rb
      have q1' : (w1.setCell ⟨w.heap.size + 4, 0, none⟩ (.slice (some ⟨g1, 0, none⟩) (pre.length + 1) cap1)).ownsRow (w.heap.size + 6) 3 1 p.vd p.r.dep.length (p.r.dep.map (Value.int .i64)) := ownsRow_of_heap q1 fun k hk => ho1 k (q1.lt k hk).2 (by have := (q1.lt k hk).1; omega) (q2 k hk)
      have h7 := (q1'.lt k hk).2
      exact (o2 k h7 (by omega) (fun e => rows_apart (by decide) q1' hrb k hk e)).trans (ho1 k h5.2 (by omega) (q2 k hk))
  case done =>
    clear b0 b1 b2 b3 b4 b5
    rintro D ys W hD hys ⟨⟨va, vb, h, hdp⟩, hB⟩ hK
    have hlen : ys.length = pl.length := by have := congrArg List.length hys; simpa using this
    have hmap : ys.map (·.i) = pl.map (·.1) := by have := congrArg (List.map Prod.fst) hys; simpa [List.map_map, Function.comp_def] using this
    have hmap2 : ys.map (·.r) = pl.map (·.2) := by have := congrArg (List.map Prod.snd) hys; simpa [List.map_map, Function.comp_def] using this
    have Hdp := hide hdp
    have Hmap2 := hide hmap2
    obtain ⟨pa, ca, rfl⟩ := ownsRow_slice h.ra
    obtain ⟨pb, cb, rfl⟩ := ownsRow_slice h.rb
    have c1 := h.a.cell
    have c2 := h.b.cell
    have c4 := h.r1.cell
    have c5 := h.r2.cell
    have c6 := h.r3.cell
    have f4 := h.r1.frozen
    have f5 := h.r2.frozen
    have f6 := h.r3.frozen
    have Hlen := hide hlen
    have Hmap := hide hmap
    have Hh := hide h
    have HB := hide hB
    clear h hB hlen hmap hys hdp hmap2
    gi_wp2
    gi_region
    obtain ⟨va, hva⟩ : ∃ va, Value.slice pa ys.length ca = va := ⟨_, rfl⟩
    obtain ⟨vb, hvb⟩ : ∃ vb, Value.slice pb ys.length cb = vb := ⟨_, rfl⟩
    rw [hva, hvb] at Hh ⊢
    have hh := Hh.out
    obtain ⟨W3, hW3⟩ : ∃ W3, (((W.setCell ⟨w.heap.size + 1, 0, none⟩ va).setCell ⟨w.heap.size + 2, 0, none⟩ vb).setCell ⟨w.heap.size + 3, 0, none⟩ (.bool true)).drew = W3 := ⟨_, rfl⟩
    have hK3 : W3.heap[D]? = some (.deferred (some [])) := by
      rw [← hW3]
      exact (KeepsOthers.setCell _ _ _).same D _ ((KeepsOthers.setCell _ _ _).same D _ ((KeepsOthers.setCell _ _ _).same D _ hK rfl) rfl) rfl
    have hother : ∀ k, k ≠ w.heap.size + 1 → k ≠ w.heap.size + 2 → k ≠ w.heap.size + 3 → W3.heap[k]? = W.heap[k]? := by
      intro k h1 h2 h3
      rw [← hW3]
      exact (Below.heap_setCell _ _ _ _ h3).trans ((Below.heap_setCell _ _ _ _ h2).trans (Below.heap_setCell _ _ _ _ h1))
    have R1 : Boxed W3 (w.heap.size + 1) 54 va := by
      rw [← hW3]
      exact boxed_of_heap (boxed_of_heap (hh.r1.set va) (Below.heap_setCell _ _ _ _ (show w.heap.size + 1 ≠ w.heap.size + 2 by omega))) (Below.heap_setCell _ _ _ _ (show w.heap.size + 1 ≠ w.heap.size + 3 by omega))
    have R2 : Boxed W3 (w.heap.size + 2) 59 vb := by
      rw [← hW3]
      exact boxed_of_heap ((boxed_of_heap hh.r2 (Below.heap_setCell _ _ _ _ (show w.heap.size + 2 ≠ w.heap.size + 1 by omega))).set vb) (Below.heap_setCell _ _ _ _ (show w.heap.size + 2 ≠ w.heap.size + 3 by omega))
    have R3 : Boxed W3 (w.heap.size + 3) 4 (.bool true) := by
      rw [← hW3]
      exact (boxed_of_heap (boxed_of_heap hh.r3 (Below.heap_setCell _ _ _ _ (show w.heap.size + 3 ≠ w.heap.size + 1 by omega))) (Below.heap_setCell _ _ _ _ (show w.heap.size + 3 ≠ w.heap.size + 2 by omega))).set (.bool true)
    have rb := ownsRow_of_heap hh.rb (W' := W3) (fun k hk => by have := (hh.rb.lt k hk).1; exact hother k (by omega) (by omega) (by omega))
    have rd : ∀ p ∈ ys, W3.ownsRow (w.heap.size + 6) 3 1 p.vd p.r.dep.length (p.r.dep.map (Value.int .i64)) := fun p hp => ownsRow_of_heap (Hdp.out p hp).1 fun k hk => by have := ((Hdp.out p hp).1.lt k hk).1; exact hother k (by omega) (by omega) (by omega)
    have ra := ownsRow_of_heap hh.ra (W' := W3) (fun k hk => by have := (hh.ra.lt k hk).1; exact hother k (by omega) (by omega) (by omega))
    have hB3 : Below w.heap.size w W3 := by
      rw [← hW3]
      exact (((HB.out.setCell (p := ⟨w.heap.size + 1, 0, none⟩) (by simp) _).setCell (p := ⟨w.heap.size + 2, 0, none⟩) (by simp) _).setCell (p := ⟨w.heap.size + 3, 0, none⟩) (by simp) _).drew
    rw [hW3]
    clear hother hW3 c1 c2 c4 c5 c6 f4 f5 f6 hK heq
    gi_wp2
    have hg := grownBy_putObj' W3 D (.deferred none)
    have hr : ∀ r, some D = some r → ∃ o : Obj, W3.heap[r]? = some o ∧ o.isCells = false := fun r e => by cases e; exact ⟨_, hK3, rfl⟩
    have Q1 := (boxed_own' hg hr R1).cell
    have Q2 := (boxed_own' hg hr R2).cell
    have Q3 := (boxed_own' hg hr R3).cell
    have ra' := ownsRow_own' hg hr ra
    have rb' := ownsRow_own' hg hr rb
    have rd' := fun p hp => ownsRow_own' hg hr (rd p hp)
    refine ⟨by simp, .inl ⟨_, _, rfl, run_takeDeferred hK3, ?_⟩⟩
    refine ⟨.tuple #[va, vb, .bool true], ?_, va, vb, rfl, ?_, ?_, ?_⟩
    · subst hva
      subst hvb
      simp [results, Tryz.f22, go_sem, Q1, Q2, Q3]
    · rw [← Hmap.out]
      exact IsNums.of_row (by rw [List.map_map]; exact ra')
    · rw [← Hmap2.out]
      exact recs_of_row rb' rd'
    · exact hB3.trans (belowK_b (w := w) (Nat.le_refl _) W3 D _ _ (by omega) hK3 rfl rfl)
  case stop =>
    rintro D c pre W _ _ h _
    exact h.elim

end Go.Proofs.YtncmocmmkbmmjaaGreatDoor

/- seg's Lasts. Own work; no statement. -/
set_option linter.unusedSimpArgs false
set_option linter.unusedVariables false
namespace Go.Proofs.YtncmocmmkbmmjaaGreatDoor
open Go.RowKit Go.Shelf Go.Sort

/-- Is a record at pos whose line does not wait? -/
def lastsS (S : SegD) (pos : Int) : Bool := match S.slots[belowN (poss S) pos]? with
  | none => false
  | some x => decide (x.pos = pos) && decide (x.line < S.D.lasts)

set_option maxHeartbeats 4000000 in
set_option maxRecDepth 100000 in
theorem lasts_not (m : SegM) (pos : Int) (i : Nat) (w : World) (u1 : Hid (Calls Tryz.prog 61 #[.pointer (some ⟨m.p, 0, none⟩), .int .i64 pos] w fun e w' => e = .returned (.tuple #[.int .i64 (i : Int), .bool false]) ∧ ∃ n, w' = w.drewN n)) :
    Calls Tryz.prog 30 #[.pointer (some ⟨m.p, 0, none⟩), .int .i64 pos] w fun e w' => e = .returned (.bool false) ∧ ∃ n, w' = w.drewN n := by
  go_enter Tryz.func30, Tryz.ntmps30
  go_wp2_with fail
  refine u1.out.mono ?_
  rintro e w' ⟨rfl, n1, rfl⟩
  obtain ⟨W1, hW1⟩ : ∃ W1, w.drewN n1 = W1 := ⟨_, rfl⟩
  rw [hW1]
  have HW1 := hide hW1
  clear hW1 u1
  go_wp2_with fail
  refine wp_region_quiet_lit (by kernel_rfl) (by kernel_rfl) ?_
  first | go_big_quiet_step (fail) | quiet_step (fail)
  first | go_big_quiet_step (fail) | quiet_step (fail)
  first | go_big_quiet_step (fail) | quiet_step (fail)
  first | go_big_quiet_step (fail) | quiet_step (fail)
  first | go_big_quiet_step (fail) | quiet_step (fail)
  first | go_big_quiet_step (fail) | quiet_step (fail)
  first | go_big_quiet_step (fail) | quiet_step (fail)
  first | go_big_quiet_step (fail) | quiet_step (fail)
  first | go_big_quiet_step (fail) | quiet_step (fail)
  first | go_big_quiet_step (fail) | quiet_step (fail)
  first | go_big_quiet_step (fail) | quiet_step (fail)
  first | go_big_quiet_step (fail) | quiet_step (fail)
  first | go_big_quiet_step (fail) | quiet_step (fail)
  first | go_big_quiet_step (fail) | quiet_step (fail)
  first | go_big_quiet_step (fail) | quiet_step (fail)
  first | go_big_quiet_step (fail) | quiet_step (fail)
  first | go_big_quiet_step (fail) | quiet_step (fail)
  first | go_big_quiet_step (fail) | quiet_step (fail)
  first | go_big_quiet_step (fail) | quiet_step (fail)
  first | go_big_quiet_step (fail) | quiet_step (fail)
  first | go_big_quiet_step (fail) | quiet_step (fail)
  first | go_big_quiet_step (fail) | quiet_step (fail)
  first | go_big_quiet_step (fail) | quiet_step (fail)
  first | go_big_quiet_step (fail) | quiet_step (fail)
  first | go_big_quiet_step (fail) | quiet_step (fail)
  first | go_big_quiet_step (fail) | quiet_step (fail)
  refine wpQuiet_nil ?_
  intro _ hw'
  obtain ⟨nq, hw''⟩ := hw'
  subst hw''
  go_wp2_with fail
  go_ret
  exact ⟨by first | rfl | (simp; done) | (simp; omega), _, by rw [← HW1.out]; exact World.drewN_drewN _ _ _⟩

set_option maxHeartbeats 4000000 in
set_option maxRecDepth 100000 in
theorem lasts_calls (B : Nat) (m : SegM) (S : SegD) (pos : Int) (w : World) (hd : IsSeg w B m S) :
    Calls Tryz.prog 30 #[.pointer (some ⟨m.p, 0, none⟩), .int .i64 pos] w fun e w' => e = .returned (.bool (lastsS S pos)) ∧ ∃ n, w' = w.drewN n := by
  have hlen := hd.disk.len
  have hfew := hd.ok.few
  have hlast := hd.disk.ok.lasts
  have u1 := hide (find_calls B m S pos w hd)
  have u2 := hide (fun k n => diskLen_calls B m.dp m.dg S.D ((w.drewN k).drewN n) ((hd.disk.drews k).drews n))
  have u3 := hide (fun k n => diskWaits_calls B m.dp m.dg S.D ((w.drewN k).drewN n) ((hd.disk.drews k).drews n))
  obtain ⟨o, ho⟩ : ∃ o, lastsS S pos = o := ⟨_, rfl⟩
  rw [ho]
  have hat := isAt_slot S pos
  unfold lastsS at ho
  by_cases hi : belowN (poss S) pos < S.slots.length
  · rw [List.getElem?_eq_getElem hi] at ho hat
    dsimp only at ho hat
    obtain ⟨a, cap, q, c3, cq, hs⟩ := hd.slot hi
    obtain ⟨vd, -, hq, -⟩ := hs
    obtain ⟨-, -, -, b4, -⟩ := hd.ok.each _ (List.getElem_mem hi)
    have cp := (cells7 hq).2.1
    obtain ⟨_, _, -, -, hpw, -, -⟩ := hd.val
    have c0 := (cells4 hpw).1
    generalize S.slots[belowN (poss S) pos] = x at *
    generalize belowN (poss S) pos = i at *
    rw [hat] at u1
    clear hq hpw hd hat
    unfold ptrV at c0
    obtain ⟨ln, hln⟩ : ∃ n, x.line = n := ⟨_, rfl⟩
    obtain ⟨L, hL⟩ : ∃ n, S.D.lines.length = n := ⟨_, rfl⟩
    obtain ⟨K, hK⟩ : ∃ n, S.D.lasts = n := ⟨_, rfl⟩
    obtain ⟨N, hN⟩ : ∃ n, S.slots.length = n := ⟨_, rfl⟩
    rw [hln] at ho b4 cp
    rw [hL] at u2 u3 hlen hlast hfew
    rw [hK] at ho u3 hlast
    rw [hN] at hfew c3 hi
    clear hln hL hK hN
    have hiN : (i : Int) < (N : Int) := by omega
    by_cases hx : x.pos = pos
    · rw [decide_eq_true hx] at u1 ho
      clear hx
      by_cases hll : ln < K
      · rw [decide_eq_true hll] at ho
        have hll' : (ln : Int) < (L : Int) - ((L : Int) - (K : Int)) := by omega
        subst ho
        go_enter Tryz.func30, Tryz.ntmps30
        go_wp2_with fail
        refine u1.out.mono ?_
        rintro e w' ⟨rfl, n1, rfl⟩
        obtain ⟨W1, hW1⟩ : ∃ W1, w.drewN n1 = W1 := ⟨_, rfl⟩
        have d0 : W1.cell? ⟨m.p, 0, none⟩ = some (.pointer (some ⟨m.dp, 0, none⟩)) := by rw [← hW1]; exact c0
        have d3 : W1.cell? ⟨m.p, 3, none⟩ = some (.slice (some ⟨a, 0, none⟩) N cap) := by rw [← hW1]; exact c3
        have dq : W1.cell? ⟨a, i, none⟩ = some (.pointer (some ⟨q, 0, none⟩)) := by rw [← hW1]; exact cq
        have dp : W1.cell? ⟨q, 1, none⟩ = some (.int .i64 (ln : Int)) := by rw [← hW1]; exact cp
        have v2 := u2.out n1
        have v3 := u3.out n1
        rw [hW1] at v2 v3
        rw [hW1]
        have HW1 := hide hW1
        have V2 := hide v2
        have V3 := hide v3
        clear hW1 v2 v3 c0 c3 cq cp u1 u2 u3
        go_wp2_with fail
        refine wp_region_quiet_lit (by kernel_rfl) (by kernel_rfl) ?_
        first | go_big_quiet_step (fail) | quiet_step (fail)
        first | go_big_quiet_step (fail) | quiet_step (fail)
        first | go_big_quiet_step (fail) | quiet_step (fail)
        first | go_big_quiet_step (fail) | quiet_step (fail)
        first | go_big_quiet_step (fail) | quiet_step (fail)
        first | go_big_quiet_step (fail) | quiet_step (fail)
        first | go_big_quiet_step (fail) | quiet_step (fail)
        first | go_big_quiet_step (fail) | quiet_step (fail)
        first | go_big_quiet_step (fail) | quiet_step (fail)
        first | go_big_quiet_step (fail) | quiet_step (fail)
        first | go_big_quiet_step (fail) | quiet_step (fail)
        first | go_big_quiet_step (fail) | quiet_step (fail)
        first | go_big_quiet_step (fail) | quiet_step (fail)
        first | go_big_quiet_step (fail) | quiet_step (fail)
        first | go_big_quiet_step (fail) | quiet_step (fail)
        first | go_big_quiet_step (fail) | quiet_step (fail)
        first | go_big_quiet_step (exact Calls.quiet_of_same (V2.out _)) | quiet_step (exact Calls.quiet_of_same (V2.out _))
        first | go_big_quiet_step (fail) | quiet_step (fail)
        first | go_big_quiet_step (fail) | quiet_step (fail)
        first | go_big_quiet_step (fail) | quiet_step (fail)
        first | go_big_quiet_step (fail) | quiet_step (fail)
        first | go_big_quiet_step (exact Calls.quiet_of (V3.out _)) | quiet_step (exact Calls.quiet_of (V3.out _))
        first | go_big_quiet_step (fail) | quiet_step (fail)
        first | go_big_quiet_step (fail) | quiet_step (fail)
        first | go_big_quiet_step (fail) | quiet_step (fail)
        first | go_big_quiet_step (fail) | quiet_step (fail)
        refine wpQuiet_nil ?_
        intro _ hw'
        obtain ⟨nq, hw''⟩ := hw'
        subst hw''
        go_wp2_with fail
        go_ret
        exact ⟨by first | rfl | (simp; done) | (simp; omega), _, by rw [← HW1.out]; exact World.drewN_drewN _ _ _⟩
      · rw [decide_eq_false hll] at ho
        have hll' : ¬ (ln : Int) < (L : Int) - ((L : Int) - (K : Int)) := by omega
        subst ho
        go_enter Tryz.func30, Tryz.ntmps30
        go_wp2_with fail
        refine u1.out.mono ?_
        rintro e w' ⟨rfl, n1, rfl⟩
        obtain ⟨W1, hW1⟩ : ∃ W1, w.drewN n1 = W1 := ⟨_, rfl⟩
        have d0 : W1.cell? ⟨m.p, 0, none⟩ = some (.pointer (some ⟨m.dp, 0, none⟩)) := by rw [← hW1]; exact c0
        have d3 : W1.cell? ⟨m.p, 3, none⟩ = some (.slice (some ⟨a, 0, none⟩) N cap) := by rw [← hW1]; exact c3
        have dq : W1.cell? ⟨a, i, none⟩ = some (.pointer (some ⟨q, 0, none⟩)) := by rw [← hW1]; exact cq
        have dp : W1.cell? ⟨q, 1, none⟩ = some (.int .i64 (ln : Int)) := by rw [← hW1]; exact cp
        have v2 := u2.out n1
        have v3 := u3.out n1
        rw [hW1] at v2 v3
        rw [hW1]
        have HW1 := hide hW1
        have V2 := hide v2
        have V3 := hide v3
        clear hW1 v2 v3 c0 c3 cq cp u1 u2 u3
        go_wp2_with fail
        refine wp_region_quiet_lit (by kernel_rfl) (by kernel_rfl) ?_
        first | go_big_quiet_step (fail) | quiet_step (fail)
        first | go_big_quiet_step (fail) | quiet_step (fail)
        first | go_big_quiet_step (fail) | quiet_step (fail)
        first | go_big_quiet_step (fail) | quiet_step (fail)
        first | go_big_quiet_step (fail) | quiet_step (fail)
        first | go_big_quiet_step (fail) | quiet_step (fail)
        first | go_big_quiet_step (fail) | quiet_step (fail)
        first | go_big_quiet_step (fail) | quiet_step (fail)
        first | go_big_quiet_step (fail) | quiet_step (fail)
        first | go_big_quiet_step (fail) | quiet_step (fail)
        first | go_big_quiet_step (fail) | quiet_step (fail)
        first | go_big_quiet_step (fail) | quiet_step (fail)
        first | go_big_quiet_step (fail) | quiet_step (fail)
        first | go_big_quiet_step (fail) | quiet_step (fail)
        first | go_big_quiet_step (fail) | quiet_step (fail)
        first | go_big_quiet_step (fail) | quiet_step (fail)
        first | go_big_quiet_step (exact Calls.quiet_of_same (V2.out _)) | quiet_step (exact Calls.quiet_of_same (V2.out _))
        first | go_big_quiet_step (fail) | quiet_step (fail)
        first | go_big_quiet_step (fail) | quiet_step (fail)
        first | go_big_quiet_step (fail) | quiet_step (fail)
        first | go_big_quiet_step (fail) | quiet_step (fail)
        first | go_big_quiet_step (exact Calls.quiet_of (V3.out _)) | quiet_step (exact Calls.quiet_of (V3.out _))
        first | go_big_quiet_step (fail) | quiet_step (fail)
        first | go_big_quiet_step (fail) | quiet_step (fail)
        first | go_big_quiet_step (fail) | quiet_step (fail)
        first | go_big_quiet_step (fail) | quiet_step (fail)
        refine wpQuiet_nil ?_
        intro _ hw'
        obtain ⟨nq, hw''⟩ := hw'
        subst hw''
        go_wp2_with fail
        go_ret
        exact ⟨by first | rfl | (simp; done) | (simp; omega), _, by rw [← HW1.out]; exact World.drewN_drewN _ _ _⟩
    · rw [decide_eq_false hx] at u1 ho
      rw [Bool.false_and] at ho
      subst ho
      exact lasts_not m pos i w u1
  · rw [List.getElem?_eq_none (by omega)] at ho hat
    dsimp only at ho hat
    rw [hat] at u1
    subst ho
    exact lasts_not m pos _ w u1

end Go.Proofs.YtncmocmmkbmmjaaGreatDoor
