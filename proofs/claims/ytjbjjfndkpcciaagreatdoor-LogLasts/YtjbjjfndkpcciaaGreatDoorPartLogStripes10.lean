/- Own work: the parts S17, R8, R9, Range2, R10, R11, S18 of the proof, laid together. -/
import Derived.Test.YtjbjjfndkpcciaaGreatDoorPartLogStripes9
import Derived.Test.YtjbjjfndkpcciaaGreatDoorPartLogStripes5
import Derived.Deep.RegionLaw
import Derived.Outline
import Derived.Test.YtjbjjfndkpcciaaGreatDoorPartLogStripes2
import Derived.Test.YtjbjjfndkpcciaaGreatDoorPartLogStripes6
import Derived.Stop.RegionWithIn
import Derived.Maps.OwnIn
/- seg's Open. Own work; no statement. -/
set_option linter.unusedSimpArgs false
set_option linter.unusedVariables false
namespace Go.Proofs.YtjbjjfndkpcciaaGreatDoor
open Go.RowKit Go.Shelf Go.Sort

attribute [local go_sem] Oper.semAt_some

/-- Where its blocks, and what lies from c on, are as they were a segment is as it was. -/
theorem IsSeg.off {W W' : World} {B : Nat} {m : SegM} {S : SegD} (h : IsSeg W B m S) (hsz : W.heap.size ≤ W'.heap.size) (ht : ∀ k, k < W.heap.size → (m.on k ∨ m.c ≤ k) → W'.heap[k]? = W.heap[k]?) : IsSeg W' B m S := by
  obtain ⟨v, qs, hv, hl, hp, hr, hs⟩ := h.val
  refine ⟨h.ok, h.low, Nat.le_trans h.cl hsz, h.disk.keep fun k hk => ht k (h.disk.on hk).2 (.inl (.inr (.inr hk))), v, qs, hv, hl, (ht m.p h.lt (.inl (.inl rfl))).trans hp, ownsRow_of_heap hr fun k e => ht k (hr.lt k e).2 (.inl (.inr (.inl (hv ▸ e)))), fun i h1 h2 => ?_⟩
  obtain ⟨vd, a, b, c⟩ := hs i h1 h2
  exact ⟨vd, a, (ht _ (ltAt b) (.inr a)).trans b, ownsRow_of_heap c fun k e => ht k (c.lt k e).2 (.inr (c.lt k e).1)⟩
theorem IsSeg.own {X Y : World} {row : Option Nat} {B : Nat} {m : SegM} {S : SegD} (h : IsSeg X B m S) (hg : X.grownBy Y row) (hrow : ∀ r, row = some r → ∃ o : Obj, X.heap[r]? = some o ∧ o.isCells = false) : IsSeg Y B m S := by
  obtain ⟨v, qs, hv, hl, hp, hr, hs⟩ := h.val
  refine ⟨h.ok, h.low, Nat.le_trans h.cl hg.size, h.disk.own hg hrow, v, qs, hv, hl, (own_keeps hg hrow hp).trans hp, ownsRow_own' hg hrow hr, fun i h1 h2 => ?_⟩
  obtain ⟨vd, a, b, c⟩ := hs i h1 h2
  exact ⟨vd, a, (own_keeps hg hrow b).trans b, ownsRow_own' hg hrow c⟩
theorem IsSeg.cells {W : World} {B : Nat} {m : SegM} {S : SegD} (h : IsSeg W B m S) {k : Nat} (hk : m.on k) : ∃ c t, W.heap[k]? = some (.cells c t (0, 0)) := by
  obtain ⟨-, -, c, t, h1, -⟩ := h.types hk
  exact ⟨c, t, h1⟩
/-- What is no cell is as it was where a segment alone has changed. -/
theorem IsSeg.keepsFrom {W W' : World} {B n : Nat} {m : SegM} {S : SegD} (h : IsSeg W B m S) (t : Touch m.on W W') : KeepsFrom n W W' :=
  ⟨t.size, fun k o _ hk ho => (t.block k (ltAt hk) fun e => by
    obtain ⟨c, ty, h1⟩ := h.cells e
    rw [hk] at h1
    cases h1
    cases ho).trans hk⟩
theorem IsEnt.lower {w : World} {B B' : Nat} {v : Value} {e : EntD} (h : IsEnt w B v e) (hB : B' ≤ B) : IsEnt w B' v e := by
  obtain ⟨vd, h1, h2⟩ := h
  exact ⟨vd, h1, ownsRow_low h2 hB⟩

theorem keepsFrom_new {B : Nat} {A W : World} (h : Below A.heap.size A W) : KeepsFrom B A W := ⟨h.size, fun k o _ ho _ => keepB ho h⟩

theorem cutE_all (D : DiskD) (k : Nat) (h : k ≤ D.lines.length) : cutE ⟨D.room, D.lines, D.lines.length⟩ (k : Int) = 0 := by
  unfold cutE
  rw [if_neg (by dsimp only; omega), if_neg (by dsimp only; omega)]
theorem cutD_all (D : DiskD) (k : Nat) (h : k ≤ D.lines.length) : cutD ⟨D.room, D.lines, D.lines.length⟩ (k : Int) = ⟨D.room, D.lines.take k, k⟩ := by
  unfold cutD
  rw [if_pos (cutE_all D k h)]
  simp

/-- Within Open's loop. -/
structure InOpen (W : World) (B p : Nat) (g : Option Nat) (S : SegD) (k s c : Nat) (sg : Option Nat) : Prop where
  b1 : Boxed W (s + 1) 81 (.pointer (some ⟨s, 0, none⟩))
  b2 : Boxed W (s + 2) 3 (.int .i64 (k : Int))
  seg : IsSeg W B ⟨s, p, g, sg, c⟩ S
  new : ∀ j, sg = some j → c ≤ j

theorem InOpen.own {X Y : World} {row : Option Nat} {B p : Nat} {g : Option Nat} {S : SegD} {k s c : Nat} {sg : Option Nat} (h : InOpen X B p g S k s c sg) (hg : X.grownBy Y row) (hrow : ∀ r, row = some r → ∃ o : Obj, X.heap[r]? = some o ∧ o.isCells = false) : InOpen Y B p g S k s c sg :=
  ⟨boxed_own' hg hrow h.b1, boxed_own' hg hrow h.b2, h.seg.own hg hrow, h.new⟩
theorem InOpen.below {X Y : World} {B p : Nat} {g : Option Nat} {S : SegD} {k s c : Nat} {sg : Option Nat} (h : InOpen X B p g S k s c sg) (hb : Below X.heap.size X Y) : InOpen Y B p g S k s c sg :=
  ⟨boxed_of_heap h.b1 (hb.block _ h.b1.lt), boxed_of_heap h.b2 (hb.block _ h.b2.lt), h.seg.keep hb, h.new⟩

set_option maxRecDepth 100000 in
set_option maxHeartbeats 4000000 in
theorem segOpen_calls (B p : Nat) (g : Option Nat) (D : DiskD) (w : World) (hd : IsDisk w B p g D) (hB : B ≤ w.heap.size) :
    Calls Tryz.prog 89 #[.pointer (some ⟨p, 0, none⟩)] w fun e w' => ∃ m, e = .returned (.tuple #[.pointer (some ⟨m.p, 0, none⟩), .int .i64 0]) ∧ m.dp = p ∧ IsSeg w' B m (openS D) ∧ Touch (onDisk p g) w w' ∧ (∀ k, m.on k → onDisk p g k ∨ w.heap.size ≤ k) := by
  obtain ⟨W0, hW0⟩ : ∃ W0, ((w.alloc (.cells #[.pointer (some ⟨p, 0, none⟩), .int .i64 0, .int .i64 0, .slice none 0 0] 144)).alloc (.cells #[.pointer (some ⟨w.heap.size, 0, none⟩)] 81)).alloc (.cells #[.int .i64 0] 3) = W0 := ⟨_, rfl⟩
  have HB0 : Below w.heap.size w W0 := by rw [← hW0]; exact (((Below.refl _ w).alloc (Nat.le_refl _) _).alloc (by simp) _).alloc (by simp; omega) _
  have hs0 : W0.heap.size = w.heap.size + 3 := by rw [← hW0]; simp
  have x0 : W0.heap[w.heap.size]? = some (.cells #[.pointer (some ⟨p, 0, none⟩), .int .i64 0, .int .i64 0, .slice none 0 0] 144 (0, 0)) := by
    rw [← hW0]; exact (Below.heap_alloc _ _ _ (by simp; omega)).trans ((Below.heap_alloc _ _ _ (by simp)).trans (World.alloc_heap_new w _))
  have x1 : Boxed W0 (w.heap.size + 1) 81 (.pointer (some ⟨w.heap.size, 0, none⟩)) := by
    have := (Boxed.new (w.alloc (.cells #[.pointer (some ⟨p, 0, none⟩), .int .i64 0, .int .i64 0, .slice none 0 0] 144)) 81 (.pointer (some ⟨w.heap.size, 0, none⟩))).alloc (.cells #[.int .i64 0] 3)
    rw [hW0, World.size_alloc] at this
    exact this
  have x2 : Boxed W0 (w.heap.size + 2) 3 (.int .i64 0) := by
    have := Boxed.new ((w.alloc (.cells #[.pointer (some ⟨p, 0, none⟩), .int .i64 0, .int .i64 0, .slice none 0 0] 144)).alloc (.cells #[.pointer (some ⟨w.heap.size, 0, none⟩)] 81)) 3 (.int .i64 0)
    rw [hW0, World.size_alloc, World.size_alloc] at this
    exact this
  have C := hide (diskLines_new B p g D W0 (hd.new HB0))
  have hl := hd.len
  have Hd := hide hd
  have HW := hide hW0
  clear hW0 hd
  refine (callsIn_wide (n := 5)).1 ?_
  refine callsIn_of_wp_marks Tryz.func89 rfl trivial ?_ rfl
  simp only [Tryz.ntmps89, List.size_toArray, List.length_cons, List.length_nil, Nat.reduceAdd, Nat.reduceSub, Array.replicate_succ, Array.replicate_zero, List.push_toArray, List.append_toArray, List.nil_append, List.cons_append]
  refine wpIn_wide.2 ?_
  go_wp2_with fail
  go_step3
  go_wp2_with fail
  rw [HW.out]
  simp only [Nat.add_assoc, Nat.reduceAdd]
  go_step3
  go_wp2_with fail
  refine C.out.mono ?_
  rintro e w1 ⟨b, vs, rfl, hb, hbox, hrow, hB1⟩
  go_wp2_with fail
  have hB01 := HB0.trans (hB1.mono HB0.size)
  have s1 := hB1.size
  have hdl := Hd.out.lt
  have hon : ∀ k, onDisk p g k → k < w.heap.size := fun k hk => (Hd.out.on hk).2
  have i0 : InOpen w1 B p g (emptyS D) 0 w.heap.size w1.heap.size none := ⟨boxed_of_heap x1 (hB1.block _ (by omega)), boxed_of_heap x2 (hB1.block _ (by omega)), ⟨emptyS_ok D, hB, Nat.le_refl _, Hd.out.new hB01, .slice none 0 0, [], rfl, rfl, keepB x0 hB1, World.ownsRow_nil _ _ _ _, fun i h => absurd h (by simp)⟩, fun j h => by cases h⟩
  have hin : ∀ k, onDisk b vs.ownBlock k → k < w1.heap.size ∧ w.heap.size + 3 ≤ k := fun k hk => by
    rcases hk with rfl | e
    · exact ⟨ltAt hbox, by omega⟩
    · exact ⟨(hrow.lt k e).2, by have := (hrow.lt k e).1; omega⟩
  have Hin := hide hin
  have Hon := hide hon
  refine (wpIn_wide (n := 5)).1 ?_
  refine range_lawL (by decide) (gf := 159) (lb := #[.pointer (some ⟨b, 0, none⟩)]) rfl (enters_of Tryz.func159 (by kernel_rfl) rfl)
    (lines_seq 4 (by decide) b vs vs.ownBlock D.lines (by omega) w1 hbox rfl (ownsRow_low hrow (Nat.zero_le _))) keepsSeq_t (keepsSeq_b fun k hk => (hin k hk).1) (fun _ => rfl)
    (fun k W => (∃ S sg, OpenAt D k S ∧ InOpen W B p g S k w.heap.size w1.heap.size sg) ∧ Touch (onDisk p g) w W)
    (fun c k W => (c = .exit 0 ∧ ∃ S sg, OpenAt D k S ∧ runE (emptyS D) D.lines 0 = (S, k) ∧ InOpen W B p g S k w.heap.size w1.heap.size sg) ∧ Touch (onDisk p g) w W)
    (OwnFrom.and (Own.from (fun k X Y row hs hg hr => let ⟨S, sg, h1, h2⟩ := hs; ⟨S, sg, h1, h2.own hg hr⟩) _) (ownFrom_touch (by omega)))
    (fun c => OwnFrom.and (Own.from (fun k X Y row hs hg hr => let ⟨h0, S, sg, h1, h2, h3⟩ := hs; ⟨h0, S, sg, h1, h2, h3.own hg hr⟩) _) (ownFrom_touch (by omega)))
    ⟨⟨_, _, openAt_start D, i0⟩, touch_new hB01⟩
    (fun x => { tmps := #[.pointer (some ⟨p, 0, none⟩), undef, .pointer none, .int .i64 0, .pointer (some ⟨w.heap.size + 1, 0, none⟩), .pointer (some ⟨w.heap.size + 2, 0, none⟩), .int .i64 (x.1 : Int), .string x.2, undef, undef, .pointer (some ⟨p, 0, none⟩), .agg #[.pointer (some ⟨p, 0, none⟩), .int .i64 0, .int .i64 0, .slice none 0 0], .pointer (some ⟨w.heap.size, 0, none⟩), .pointer (some ⟨p, 0, none⟩), .func (.func 159) #[] #[.pointer (some ⟨b, 0, none⟩)], .int .i64 (x.1 : Int), .string x.2, undef, undef, undef, undef, undef, undef, undef, undef, undef, undef, undef, undef, undef, undef, undef, undef, undef, undef, undef, undef, undef, undef, undef, undef, undef, undef, undef, undef, undef], defers := [] }) ?assign ?body ?done ?stop
  case assign =>
    intro l x W K hK
    clear x0 x1 x2 hbox hrow i0
    dsimp only [encLine]
    gi_wp2
    exact hK
  case body =>
    clear x0 x1 x2 hbox hrow i0 hin hon C HW
    rintro lp k hk W ⟨⟨S, sg, hat, hin⟩, hT⟩
    rw [placed_get]
    have hk' : k < D.lines.length := by rw [placed_length] at hk; exact hk
    have hsz := bytesOf_mem (List.getElem_mem hk')
    have hWs : w1.heap.size ≤ W.heap.size := hin.seg.cl
    dsimp only
    cases hP : parseE (D.lines[k]).data.toList with
    | none =>
      have hR := openAt_none hat hk' hP
      obtain ⟨L, hL⟩ : ∃ L, (D.lines[k]).data.toList = L := ⟨_, rfl⟩
      have hLs : D.lines[k] = ⟨L.toArray⟩ := by rw [← hL]
      have hLl : L.length ≤ 1099511627776 := by rw [← hL, ← Lib.size_eq]; omega
      rw [hL] at hP
      rw [hLs]
      have u := hide (segParse_calls L W hLl)
      rw [hP] at u
      have I := hide hin
      have A := hide hat
      have HR := hide hR
      clear hin hat hR hL hLs hP
      gi_wp2_with (first | (refine ⟨trivial, ?_⟩; gi_at_call 148; refine (CallsIn.inRound lp ((callsIn_wide (n := _)).2 u.out)).mono ?_; rintro e w2 ⟨v, rfl, ⟨vc, vn, vs', vq, va, vm, vcap, vk, vz, rfl⟩, -, hb2⟩))
      refine ⟨trivial, ?_⟩
      gi_wp2_with fail
      have hb3 := hb2.alloc hb2.size (.cells #[.string vc, .int .i64 vn, .int .i64 vs', .int .i64 vq, .slice va vm vcap, .string vk, .string vz] 170)
      exact ⟨keepsFrom_new hb3, ⟨rfl, S, sg, A.out, HR.out, I.out.below hb3⟩, hT.new hb3⟩
    | some e =>
      have hE := parseE_ok hP
      obtain ⟨L, hL⟩ : ∃ L, (D.lines[k]).data.toList = L := ⟨_, rfl⟩
      have hLs : D.lines[k] = ⟨L.toArray⟩ := by rw [← hL]
      have hLl : L.length ≤ 1099511627776 := by rw [← hL, ← Lib.size_eq]; omega
      have hq : Hid (parseE (D.lines[k]).data.toList = some e) := hP
      rw [hL] at hP
      rw [hLs]
      have u := hide (segParse_calls L W hLl)
      rw [hP] at u
      have I := hide hin
      have A := hide hat
      clear hin hat hL hLs hP
      have hp1 := I.out.b1.lt
      have hp2 := I.out.b2.lt
      have c1 := I.out.b1.cell
      have c2 := I.out.b2.cell
      have um := hide (fun W' (h : Below W.heap.size W W') v' (hv' : IsEnt W' w1.heap.size v' e) => may_calls B _ _ S v' e W' (I.out.seg.keep h) hv')
      cases hM : mayS S e with
      | false =>
        rw [hM] at um
        gi_wp2_with (first | (refine ⟨trivial, ?_⟩; gi_at_call 148; refine (CallsIn.inRound lp ((callsIn_wide (n := _)).2 u.out)).mono ?_; rintro x w2 ⟨v, rfl, -, hent, hb2⟩; obtain ⟨vd, rfl, hrow⟩ := hent e rfl; obtain ⟨va, vcap, rfl⟩ := ownsRow_slice hrow; have d1 := (hb2.cell (p := ⟨w.heap.size + 1, 0, none⟩) hp1).trans c1; have hsw := hb2.size; have hq1 : w.heap.size + 1 < w2.heap.size := by omega))
        refine ⟨trivial, ?_⟩
        have hb3 := hb2.alloc hb2.size (.cells #[.string ⟨#[e.sign]⟩, .int .i64 e.n, .int .i64 e.r.site, .int .i64 e.r.seq, .slice va e.r.dep.length vcap, .string e.r.key, .string e.r.val] 170)
        refine (CallsIn.inRound lp ((callsIn_wide (n := _)).2 (um.out _ hb3 _ ⟨_, rfl, World.ownsRow.alloc (ownsRow_low hrow hWs) _⟩))).mono ?_
        rintro x w3 ⟨rfl, hb4⟩
        gi_wp2_with fail
        have hb5 := hb3.trans (hb4.mono hb3.size)
        exact ⟨keepsFrom_new hb5, ⟨rfl, S, sg, A.out, openAt_not A.out hk' hq.out hM, I.out.below hb5⟩, hT.new hb5⟩
      | true =>
        rw [hM] at um
        gi_wp2_with (first | (refine ⟨trivial, ?_⟩; gi_at_call 148; refine (CallsIn.inRound lp ((callsIn_wide (n := _)).2 u.out)).mono ?_; rintro x w2 ⟨v, rfl, -, hent, hb2⟩; obtain ⟨vd, rfl, hrow⟩ := hent e rfl; obtain ⟨va, vcap, rfl⟩ := ownsRow_slice hrow; have d1 := (hb2.cell (p := ⟨w.heap.size + 1, 0, none⟩) hp1).trans c1; have hsw := hb2.size; have hq1 : w.heap.size + 1 < w2.heap.size := by omega))
        refine ⟨trivial, ?_⟩
        have hb3 := hb2.alloc hb2.size (.cells #[.string ⟨#[e.sign]⟩, .int .i64 e.n, .int .i64 e.r.site, .int .i64 e.r.seq, .slice va e.r.dep.length vcap, .string e.r.key, .string e.r.val] 170)
        have y3 := World.alloc_heap_new w2 (.cells #[.string ⟨#[e.sign]⟩, .int .i64 e.n, .int .i64 e.r.site, .int .i64 e.r.seq, .slice va e.r.dep.length vcap, .string e.r.key, .string e.r.val] 170)
        refine (CallsIn.inRound lp ((callsIn_wide (n := _)).2 (um.out _ hb3 _ ⟨_, rfl, World.ownsRow.alloc (ownsRow_low hrow hWs) _⟩))).mono ?_
        rintro x w3 ⟨rfl, hb4⟩
        have hb5 := hb3.trans (hb4.mono hb3.size)
        have y5 := keepB y3 hb4
        obtain ⟨k0, k1, k2, k3, k4, k5, k6, -, -, -, -, -, -, -⟩ := cells7 y5
        have I5 := hide (I.out.below hb5)
        have d1' := I5.out.b1.cell
        have v5 : IsEnt w3 w1.heap.size (.agg #[.string ⟨#[e.sign]⟩, .int .i64 e.n, .int .i64 e.r.site, .int .i64 e.r.seq, .slice va e.r.dep.length vcap, .string e.r.key, .string e.r.val]) e := ⟨_, rfl, own_below (World.ownsRow.alloc (ownsRow_low hrow hWs) _) hb4⟩
        have ua := hide (apply_calls B _ S e _ k w3 I5.out.seg (by have := hb5.size; omega) v5 hM ⟨hE.1, hE.2.1, hE.2.2.1, fun h => ⟨hE.2.2.2.1 h, by rw [A.out.same]; have := A.out.len; omega⟩⟩ (by omega))
        clear y3 y5 v5 d1 c1 c2 hent hrow um u
        gi_wp2_with fail
        refine ⟨trivial, ?_⟩
        refine (CallsIn.inRound lp ((callsIn_wide (n := _)).2 ua.out)).mono ?_
        rintro x w4 ⟨rfl, sg4, I4, T4, G4⟩
        have T4' := hide T4
        have I4' := hide I4
        have G4' := hide G4
        clear T4 I4 G4 ua k0 k1 k2 k3 k4 k5 k6 d1'
        have hnot : ∀ j, w.heap.size + 1 ≤ j → j < w1.heap.size → ¬ (⟨w.heap.size, p, g, sg, w1.heap.size⟩ : SegM).on j := by
          intro j h1 h2 h3
          rcases h3 with h4 | h4 | h4
          · have h5 : j = w.heap.size := h4
            omega
          · have := I5.out.new j h4
            omega
          · have := Hon.out j h4
            omega
        have hsz4 := T4'.out.size
        have hs3 := hb5.size
        have e1 : Boxed w4 (w.heap.size + 1) 81 (.pointer (some ⟨w.heap.size, 0, none⟩)) := boxed_of_heap I5.out.b1 (T4'.out.block _ I5.out.b1.lt (hnot _ (by omega) (by omega)))
        have e2 : Boxed w4 (w.heap.size + 2) 3 (.int .i64 (k : Int)) := boxed_of_heap I5.out.b2 (T4'.out.block _ I5.out.b2.lt (hnot _ (by omega) (by omega)))
        have d2 := e2.cell
        have f2 := e2.frozen
        gi_wp2_with fail
        have hother : ∀ j, j ≠ w.heap.size + 2 → (w4.setCell ⟨w.heap.size + 2, 0, none⟩ (.int .i64 ((k : Int) + 1))).heap[j]? = w4.heap[j]? := fun j hj => Below.heap_setCell _ _ _ _ hj
        have G5 : ∀ j, sg4 = some j → w1.heap.size ≤ j := fun j hj => by
          rcases G4'.out j hj with h | h
          · exact I5.out.new j h
          · omega
        have I6 : InOpen (w4.setCell ⟨w.heap.size + 2, 0, none⟩ (.int .i64 ((k : Int) + 1))) B p g (applyS S e k) (k + 1) w.heap.size w1.heap.size sg4 := by
          refine ⟨boxed_of_heap e1 (hother _ (by omega)), e2.set _, I4'.out.off (by simp [World.setCell]) fun j hj h => hother j ?_, G5⟩
          rintro rfl
          rcases h with h | h
          · rcases h with h4 | h4 | h4
            · have h5 : w.heap.size + 2 = w.heap.size := h4
              omega
            · have := G5 _ h4
              omega
            · have := Hon.out _ h4
              omega
          · have h5 : w1.heap.size ≤ w.heap.size + 2 := h
            omega
        have T6 : Touch (onDisk p g) w w4 := by
          refine (hT.new hb5).next T4'.out fun i hi h => ?_
          rcases h with h4 | h4 | h4
          · have h5 : i = w.heap.size := h4
            omega
          · have := I5.out.new i h4
            omega
          · exact h4
        refine ⟨((keepsFrom_new hb5).trans (I5.out.seg.keepsFrom T4'.out)).trans ((KeepsOthers.setCell _ _ _).from _), fun j hj => ?_, ⟨_, _, openAt_step A.out hk' hq.out hM, I6⟩, T6.setNew _ _ (by simp)⟩
        have h1 := Hin.out j hj
        exact (hother j (by omega)).trans ((T4'.out.block j (by omega) (hnot j (by omega) h1.1)).trans (hb5.block j (by omega)))
  case done =>
    clear x0 x1 x2 hbox hrow i0 hin hon C HW
    rintro Dd W hD ⟨⟨S, sg, hat, hin⟩, hT⟩ hK
    rw [placed_length] at hat hin
    have hR := openAt_end hat
    have hS : openS D = S := by
      unfold openS
      rw [hR]
      dsimp only
      unfold openD
      rw [if_neg (by omega), ← hat.same]
    have c1 := hin.b1.cell
    have c2 := hin.b2.cell
    have u1 := hide (fun n => diskLen_to B p g S.D (D.lines.length : Int) (by rw [hat.same]) (W.drewN n) (hin.seg.disk.drews n))
    have I := hide hin
    have A := hide hat
    clear hin hR hat
    go_wp2_with fail
    go_quiet (first | (go_at_call 128; refine Calls.quiet_of_same (u1.out _)))
    go_wp2_with fail
    have K2 : (W.drewN nq).heap[Dd]? = some (.deferred (some [])) := hK
    refine ⟨by simp, .inl ⟨_, _, rfl, run_takeDeferred K2, ?_⟩⟩
    have hg := grownBy_putObj' (W.drewN nq) Dd (.deferred none)
    have hr : ∀ r, some Dd = some r → ∃ o : Obj, (W.drewN nq).heap[r]? = some o ∧ o.isCells = false := fun r e => by cases e; exact ⟨_, K2, rfl⟩
    refine ⟨.tuple #[.pointer (some ⟨w.heap.size, 0, none⟩), .int .i64 0], by simp [results, Tryz.f89, go_sem], ⟨w.heap.size, p, g, sg, w1.heap.size⟩, rfl, rfl, ?_, ownFrom_touch (β := Unit) (show w.heap.size ≤ w.heap.size from Nat.le_refl _) () _ _ _ (hT.drewN nq) hg fun r e => ⟨by cases e; omega, hr r e⟩, fun k hk => ?_⟩
    · rw [hS]
      exact (I.out.seg.drews nq).own hg hr
    · rcases hk with h4 | h4 | h4
      · exact .inr (Nat.le_of_eq h4.symm)
      · exact .inr (by have := I.out.new k h4; omega)
      · exact .inl h4
  case stop =>
    clear x0 x1 x2 hbox hrow i0 hin hon C HW
    rintro Dd c k W hD hk ⟨⟨rfl, S, sg, hat, hR, hin⟩, hT⟩ hK
    have hk' : k < D.lines.length := by rw [placed_length] at hk; exact hk
    have hS : openS D = { S with D := ⟨D.room, D.lines.take k, k⟩ } := by
      unfold openS
      rw [hR]
      dsimp only
      unfold openD
      rw [if_pos hk']
    have c1 := hin.b1.cell
    have c2 := hin.b2.cell
    have u1 := hide (fun n => diskLen_to B p g S.D (D.lines.length : Int) (by rw [hat.same]) (W.drewN n) (hin.seg.disk.drews n))
    have I := hide hin
    have A := hide hat
    clear hin hR hat
    have hkI : (k : Int) < (D.lines.length : Int) := by omega
    refine (wpIn_wide (n := 5)).2 ?_
    go_wp2_with fail
    go_quiet (first | (go_at_call 128; refine Calls.quiet_of_same (u1.out _)))
    go_wp2_with fail
    have u2 := diskSync_calls B p g S.D (W.drewN nq) (I.out.seg.disk.drews nq)
    refine u2.mono ?_
    rintro x w2 ⟨rfl, d2, t2⟩
    rw [A.out.same] at d2
    have hne : ∀ j, w.heap.size + 1 ≤ j → ¬ onDisk p g j := fun j hj h => by
      have := Hon.out j h
      omega
    have lt1 := I.out.b1.lt
    have lt2 := I.out.b2.lt
    have e1 : w2.cell? ⟨w.heap.size + 1, 0, none⟩ = _ := (World.cell?_of_block (w' := w2) (w := W.drewN nq) (a := ⟨w.heap.size + 1, 0, none⟩) (t2.block _ lt1 (hne _ (by simp)))).trans c1
    have e2 : w2.cell? ⟨w.heap.size + 2, 0, none⟩ = _ := (World.cell?_of_block (w' := w2) (w := W.drewN nq) (a := ⟨w.heap.size + 2, 0, none⟩) (t2.block _ lt2 (hne _ (by simp)))).trans c2
    have u3 := hide (diskCut_to B p g _ (k : Int) 0 ⟨D.room, D.lines.take k, k⟩ (cutE_all D k (by omega)) (cutD_all D k (by omega)) w2 d2)
    have t2' := hide t2
    have hs2 := t2.size
    have K2 : w2.heap[Dd]? = some (.deferred (some [])) := (t2.block Dd (ltAt hK) fun h => by
      have := Hon.out Dd h
      omega).trans hK
    clear u2 t2 d2 c1 c2 hK
    go_wp2_with (first | (go_at_call 129; refine u3.out.mono ?_; rintro x w3 ⟨rfl, d3, t3⟩; have e3 := (World.cell?_of_block (w' := w3) (w := w2) (a := ⟨w.heap.size + 1, 0, none⟩) (t3.block _ (World.block_lt_of_cell? _ _ e1) (hne _ (by simp)))).trans e1))
    have K3 : w3.heap[Dd]? = some (.deferred (some [])) := (t3.block Dd (ltAt K2) fun h => by
      have := Hon.out Dd h
      omega).trans K2
    refine ⟨by simp, .inl ⟨_, _, rfl, run_takeDeferred K3, ?_⟩⟩
    have hg := grownBy_putObj' w3 Dd (.deferred none)
    have hr : ∀ r, some Dd = some r → ∃ o : Obj, w3.heap[r]? = some o ∧ o.isCells = false := fun r e => by cases e; exact ⟨_, K3, rfl⟩
    have t23 : Touch (onDisk p g) (W.drewN nq) w3 := t2'.out.trans t3
    obtain ⟨I3, -, -⟩ := (I.out.seg.drews nq).disk_goes d3 t23 (by have := A.out.len; simp; omega) (fun _ h => .inl h)
    refine ⟨.tuple #[.pointer (some ⟨w.heap.size, 0, none⟩), .int .i64 0], by simp [results, Tryz.f89, go_sem], ⟨w.heap.size, p, g, sg, w1.heap.size⟩, rfl, rfl, ?_, ownFrom_touch (β := Unit) (show w.heap.size ≤ w.heap.size from Nat.le_refl _) () _ _ _ ((hT.drewN nq).trans t23) hg fun r e => ⟨by cases e; omega, hr r e⟩, fun k hk => ?_⟩
    · rw [hS]
      exact I3.own hg hr
    · rcases hk with h4 | h4 | h4
      · exact .inr (Nat.le_of_eq h4.symm)
      · exact .inr (by have := I.out.new k h4; omega)
      · exact .inl h4

end Go.Proofs.YtjbjjfndkpcciaaGreatDoor

/- Steps of a region that draws; rows of structs; rec's Of. Own work; no statement. -/
set_option linter.unusedSimpArgs false
set_option linter.unusedVariables false
namespace Go.Proofs.YtjbjjfndkpcciaaGreatDoor
open Go.RowKit Go.Sort

section
variable {P : Program} {ops : Array Oper} {o : Oper} {a : Act} {w : World} {K : Act → World → Prop} {Q : Exit → Act → World → Prop} {E : Prop}

/-- A call of a Go function by its contract, as a step of a region that draws. -/
theorem step_call (hg : o.guard = none) (f : FuncId) (args : Array Value) {R : Ending → World → Prop} (hrun : (execOp a.eval o).run P w = .ok (.enter f args) w) (hc : Calls P f args w R)
    (hR : ∀ e w', R e w' → ∃ v, e = .returned v ∧ K (a.put o.dst v) w') : if Region.wanted o (yielded ops a.tmps) = true then Oper.wp P o a w K Q else E := by
  rw [if_pos (by simp [Region.wanted, hg])]
  unfold Oper.wp
  rw [hrun]
  simp only [Oper.upon]
  refine hc.mono fun e w' h => ?_
  obtain ⟨v, rfl, hk⟩ := hR e w' h
  exact hk

/-- append to a row of one's own, as such a step. -/
theorem step_append (hg : o.guard = none) (s x : Operand) (t : TypeId) (hop : o.op = Op.call { callee := Callee.builtin Builtin.append, args := #[s, x], argTypes := #[t, t] })
    (base : Nat) (e : TypeId) (i : TypeInfo) (z : Value) (size bytes : Nat) (h1 : P.underlying t = some (.slice e)) (h2 : P.info? e = some i) (h3 : i.zero = some z) (h4 : i.size = size) (h5 : i.bytes = bytes) (h6 : z.cells.size = size) (h7 : 0 < size)
    (v : Value) (n : Nat) (xs : List Value) (hs : a.eval s = v) (hown : w.ownsRow base e size v n xs) (ad : Addr) (m c : Nat) (news : List Value) (hx : a.eval x = .slice (some ad) m c) (hn : news.length = m * size) (hc : ∀ j u, news[j]? = some u → w.cell? (ad.add j) = some u) (h1c : ∀ u ∈ news, u.oneCell' = true)
    (b1 : n + m ≤ maxLen) (b2 : (n + m) * bytes ≤ 140737488355328) (hb : base ≤ w.heap.size)
    (hK : ∀ v' w', w'.ownsRow base e size v' (n + m) (xs ++ news) → w.grownBy w' v.ownBlock → K (a.put o.dst v') w') : if Region.wanted o (yielded ops a.tmps) = true then Oper.wp P o a w K Q else E := by
  rw [if_pos (by simp [Region.wanted, hg])]
  obtain ⟨v', w', hrun, r1, r2, _⟩ := run_append_own (P := P) w base t o.type e i z size bytes h1 h2 h3 h4 h5 h6 h7 v n xs hown ad m c news hn hc h1c b1 b2 hb
  unfold Oper.wp
  simp [execOp, hop, resolve, invoke, builtin, hs, hx, hrun, Result.andThen]
  exact hK v' w' r1 r2
end

/-- At ⟨b, o⟩ there lies the record r. -/
def RecAt (w : World) (b o : Nat) (r : RecD) : Prop :=
  ∃ a cap, w.cell? ⟨b, o, none⟩ = some (.int .i64 r.site) ∧ w.cell? ⟨b, o + 1, none⟩ = some (.int .i64 r.seq) ∧ w.cell? ⟨b, o + 2, none⟩ = some (.slice a r.dep.length cap) ∧ w.cell? ⟨b, o + 3, none⟩ = some (.string r.key) ∧ w.cell? ⟨b, o + 4, none⟩ = some (.string r.val) ∧
    IsNums .i64 w (.slice a r.dep.length cap) r.dep
theorem RecAt.below {w w' : World} {b o : Nat} {r : RecD} (h : RecAt w b o r) (hb : Below w.heap.size w w') : RecAt w' b o r := by
  obtain ⟨a, cap, h0, h1, h2, h3, h4, hn⟩ := h
  have hlt : b < w.heap.size := World.block_lt_of_cell? w _ h0
  exact ⟨a, cap, (hb.cell (p := ⟨b, o, none⟩) hlt).trans h0, (hb.cell (p := ⟨b, o + 1, none⟩) hlt).trans h1, (hb.cell (p := ⟨b, o + 2, none⟩) hlt).trans h2, (hb.cell (p := ⟨b, o + 3, none⟩) hlt).trans h3, (hb.cell (p := ⟨b, o + 4, none⟩) hlt).trans h4, hn.below hb⟩

/-- In the world w the slice v reads as the records l. -/
def IsRecs (w : World) (v : Value) (l : List RecD) : Prop :=
  ∃ a cap, v = .slice a l.length cap ∧ ∀ t (h : t < l.length), ∃ b o, a = some ⟨b, o, none⟩ ∧ RecAt w b (o + t * 5) l[t]
theorem IsRecs.below {w w' : World} {v : Value} {l : List RecD} (h : IsRecs w v l) (hb : Below w.heap.size w w') : IsRecs w' v l := by
  obtain ⟨a, cap, rfl, h⟩ := h
  exact ⟨a, cap, rfl, fun t ht => let ⟨b, o, e, hr⟩ := h t ht; ⟨b, o, e, hr.below hb⟩⟩

/-- A record of a site, its place, and the slice of its numbers. -/
structure Pl where
  i : Int
  r : RecD
  vd : Value
def Pl.cells (p : Pl) : List Value := [.int .i64 p.i, .int .i64 p.r.site, .int .i64 p.r.seq, p.vd, .string p.r.key, .string p.r.val]

/-- The records of a site among the first k, with their places. -/
def placedTo (l : List RecD) (site : Int) : Nat → List (Int × RecD)
  | 0 => []
  | k + 1 => placedTo l site k ++ (match l[k]? with | some r => if r.site = site then [((k : Int), r)] else [] | none => [])

theorem rows_apart {W : World} {B B' : Nat} {e e' : TypeId} {s s' : Nat} {v v' : Value} {n n' : Nat} {xs ys : List Value} (he : e ≠ e') (h : W.ownsRow B e s v n xs) (h' : W.ownsRow B' e' s' v' n' ys) (k : Nat) (hk : v.ownBlock = some k) : v'.ownBlock ≠ some k := by
  intro hk'
  rcases h.2 with ⟨rfl, _⟩ | ⟨g, cap, cur, rfl, _, hg, _⟩
  · cases hk
  · rcases h'.2 with ⟨rfl, _⟩ | ⟨g', cap', cur', rfl, _, hg', _⟩
    · cases hk'
    · have e1 : g = k := by simpa [Value.ownBlock] using hk
      have e2 : g' = k := by simpa [Value.ownBlock] using hk'
      subst e1
      subst e2
      rw [hg] at hg'
      simp only [Option.some.injEq, Obj.cells.injEq] at hg'
      exact he hg'.2.1

end Go.Proofs.YtjbjjfndkpcciaaGreatDoor

/- rec's Of: the records of a site, with their places. Own work; no statement. -/
set_option linter.unusedSimpArgs false
set_option linter.unusedVariables false
namespace Go.Proofs.YtjbjjfndkpcciaaGreatDoor
open Go.RowKit Go.Sort
theorem placedTo_skip {l : List RecD} {site : Int} {k : Nat} (hk : k < l.length) (h : ¬ l[k].site = site) : placedTo l site (k + 1) = placedTo l site k := by
  simp only [placedTo, List.getElem?_eq_getElem hk, if_neg h, List.append_nil]
theorem placedTo_take {l : List RecD} {site : Int} {k : Nat} (hk : k < l.length) (h : l[k].site = site) : placedTo l site (k + 1) = placedTo l site k ++ [((k : Int), l[k])] := by
  simp only [placedTo, List.getElem?_eq_getElem hk, if_pos h]
theorem placedTo_length (l : List RecD) (site : Int) : ∀ k, (placedTo l site k).length ≤ k
  | 0 => by simp [placedTo]
  | k + 1 => by
    have := placedTo_length l site k
    simp only [placedTo, List.length_append]
    split
    · split <;> simp <;> omega
    · simp; omega

theorem cells_new {W : World} {c : Array Value} {e : TypeId} {g : Nat} (h : g = W.heap.size) : ∀ j u, c.toList[j]? = some u → (W.alloc (.cells c e)).cell? ((⟨g, 0, none⟩ : Addr).add j) = some u := by
  subst h
  intro j u hj
  rw [Addr.add_lit, Nat.zero_add, World.cell?_alloc_at _ _ _ _ rfl]
  simpa using hj

theorem six_one {p : Pl} {a : Option Addr} {n c : Nat} (h : p.vd = .slice a n c) : ∀ u ∈ p.cells, u.oneCell' = true := by
  intro u hu
  simp only [Pl.cells, h, List.mem_cons, List.not_mem_nil, or_false] at hu
  rcases hu with rfl | rfl | rfl | rfl | rfl | rfl <;> rfl

end Go.Proofs.YtjbjjfndkpcciaaGreatDoor

/- A range over a function that makes memory of its own between two rounds, over loop variables that lie in memory: what it hands over is told by a relation E, what the assignment makes of it by a relation Ax. Own work; no statement. -/
set_option linter.unusedSimpArgs false
set_option linter.unusedVariables false
namespace Go.Proofs.YtjbjjfndkpcciaaGreatDoor
open Go.RowKit Go.Shelf

section
variable {α : Type} {P : Program} {n : Nat}

/-- The iterator's contract: from a world A it comes to a world B by E x A B, and hands x over there. -/
def SeqR (n : Nat) (P : Program) (g : Nat) (lb : Array Value) (encs : α → Array Value) (Kp : World → World → Prop) (E : α → World → World → Prop) (S Sp : List α → Prop) (N : Nat) (w : World) : Prop :=
  ∀ (l : Nat) (J Jx : List α → World → Prop) (W : World), Below w.heap.size w W →
    (∀ pre x A B, J pre A → E x A B → pre.length < N → YieldAt Fence.wide (n - 1) P l (encs x) B fun e C => (e = .returned (.bool true) ∧ J (pre ++ [x]) C ∧ Kp B C) ∨ (e = .returned (.bool false) ∧ Jx (pre ++ [x]) C)) →
    J [] W → CallsIn Fence.wide n P g (#[.func (.yield l) #[] #[]] ++ lb) W fun e B => (∃ v, e = .returned v) ∧ ((∃ xs, S xs ∧ J xs B) ∨ (∃ pre, Sp pre ∧ Jx pre B))

theorem range_lawR {g : Operand} {ps : Array Tmp} {assign body : Code} {Q : Exit → Act → World → Prop} {a : Act} {w : World} (h1 : 1 ≤ n) {gf : Nat} {lb : Array Value} (hg : a.eval g = .func (.func gf) #[] lb)
    (eg : ∀ args w, (callFunc gf args).run P w = .ok (.enter gf args) w) {encs : α → Array Value} {Kp : World → World → Prop} {E : α → World → World → Prop} {S Sp : List α → Prop} {N : Nat} (hseq : SeqR (n - 1) P gf lb encs Kp E S Sp N w)
    (hKt : ∀ {A B C : World}, Kp A B → Kp B C → Kp A C) (hKb : ∀ (W : World) (l : Nat) (o o' : Obj), w.heap.size ≤ l → W.heap[l]? = some o → o.isCells = false → o.isWalk = false → Kp W (W.putObj l o'))
    (hE : ∀ x A B, E x A B → KeepsFrom w.heap.size A B) (hps : ∀ x, (encs x).size = ps.size)
    (I : List α → World → Prop) (Ix : Code → List α → World → Prop) (hI : OwnFrom w.heap.size I) (hIx : ∀ c, OwnFrom w.heap.size (Ix c))
    (h0 : I [] w) (Ax : α → World → Act → World → Prop)
    (hAp : ∀ x A a' W' l o o', Ax x A a' W' → w.heap.size ≤ l → A.heap[l]? = some o → W'.heap[l]? = some o → o.isCells = false → Ax x (A.putObj l o') a' (W'.putObj l o'))
    (hassign : ∀ (l : Nat) (pre : List α) (x : α) (A W : World) (K : Act → World → Prop), I pre A → E x A W → pre.length < N → (∀ a' W', Ax x A a' W' → KeepsFrom w.heap.size W W' → Kp W W' → K a' W') →
      assign.wpIn (Fence.wide.inRound l) (n - 1 - 1) P (Exit.then K (fun _ _ _ => False)) { tmps := (ps.zip (encs x)).foldl (fun t (p, v) => t.setIfInBounds p v) a.tmps, defers := [] } W)
    (hbody : ∀ (l : Nat) (pre : List α) (x : α) (A : World) (a' : Act) (W : World), I pre A → Ax x A a' W → pre.length < N → body.wpIn (Fence.wide.inRound l) (n - 1 - 1) P (ownPostG w.heap.size Kp I Ix (pre ++ [x]) W) a' W)
    (hdone : ∀ (D : Nat) (xs : List α) (W : World), w.heap.size ≤ D → S xs → I xs W → W.heap[D]? = some (.deferred (some [])) → Q .normal { a with defers := { target := .collected D, args := #[] } :: a.defers } W)
    (hstop : ∀ (D : Nat) (c : Code) (pre : List α) (W : World), w.heap.size ≤ D → Sp pre → Ix c pre W → W.heap[D]? = some (.deferred (some [])) → c.wpIn Fence.wide n P Q { a with defers := { target := .collected D, args := #[] } :: a.defers } W) :
    (Code.rangeFunc g ps assign body).wpIn Fence.wide n P Q a w := by
  refine wpIn_rangeFunc fun fn _ => ?_
  generalize hD : w.heap.size = D at *
  let r : Loop := { state := .ready, pending := none, fn, tmps := a.tmps, params := ps, assign, body, defers := D }
  let w1 : World := (w.alloc (.deferred (some []))).alloc (.loop r)
  have bk1 : Book D r w1 := by
    refine ⟨?_, ?_⟩
    · have := World.alloc_heap_new (w.alloc (.deferred (some []))) (.loop r)
      rwa [World.size_alloc, hD] at this
    · have := World.alloc_heap_new w (.deferred (some []))
      rw [hD] at this
      exact (Below.heap_alloc _ _ _ (by simp; omega)).trans this
  have i1 : I [] w1 := hI.alloc _ (hI.alloc _ h0)
  have b1 : Below w.heap.size w w1 := ((Below.refl _ w).alloc (Nat.le_refl _) _).alloc (by simp) _
  refine ⟨D + 1, [{ target := .collected D, args := #[] }], w1, { target := .fn (.func gf) lb, args := #[.func (.yield (D + 1)) #[] #[]] }, w1, gf, #[.func (.yield (D + 1)) #[] #[]] ++ lb, w1, ?_, ?_, fun _ _ => trivial, ?_, fun _ => h1, ?_⟩
  · rw [← hD]
    have := run_enterLoop_outer (P := P) (w := w) fn a.tmps ps assign body
    simp only [w1, r, ← hD]
    exact this
  · simp only [resolve, hg]
    simp [go_sem]
  · simp [invoke, go_sem, eg]
  · refine (hseq (D + 1) (fun pre W => I pre W ∧ Book D r W) (fun pre W => ∃ c, Ix c pre W ∧ Book D { r with state := .done, pending := some c } W) w1 b1 ?_ ⟨i1, bk1⟩).mono ?_
    · rintro pre x A W ⟨hi, hbA⟩ hEx hlen
      have hb : Book D r W := hbA.from (Nat.le_refl _) (hE x A W hEx)
      refine ⟨fn, _, assign, body, run_yield hb.1 (hps x), roundIn_of_wpIn trivial (hassign _ pre x A W _ hi hEx hlen fun a' W' hax hkf hkp => ?_)⟩
      have hbW : Book D r W' := hb.from (Nat.le_refl _) hkf
      refine ⟨_, run_beginRound hbW.1 rfl, ?_⟩
      have hb2 := hbW.put { r with state := .busy }
      have k2 : Kp W (W'.putObj (D + 1) (.loop { r with state := .busy })) := hKt hkp (hKb _ _ _ _ (by omega) hbW.1 rfl rfl)
      refine wpIn_mono (hbody _ pre x _ a' _ (hI.putObj _ hi (by omega) hbA.1 rfl) (hAp x A a' W' (D + 1) (.loop r) _ hax (by omega) hbA.1 hbW.1 rfl) hlen) fun e a3 W3 hp => ?_
      have left : ∀ c, KeepsFrom D (W'.putObj (D + 1) (.loop { r with state := .busy })) W3 → Ix c (pre ++ [x]) W3 → ∃ v W4, (Instr.endRound (D + 1) (some c)).run P W3 = .ok v W4 ∧ ((Ending.returned v = .returned (.bool true) ∧ (I (pre ++ [x]) W4 ∧ Book D r W4) ∧ Kp W W4) ∨ (Ending.returned v = .returned (.bool false) ∧ ∃ c, Ix c (pre ++ [x]) W4 ∧ Book D { r with state := .done, pending := some c } W4)) := fun c hk hi3 => by
        obtain ⟨hr, hl, hb4⟩ := round_end (P := P) hb2 (some c) hk
        exact ⟨_, _, hr, .inr ⟨rfl, c, (hIx c).putObj _ hi3 (by omega) hl rfl, hb4⟩⟩
      cases e with
      | normal =>
        obtain ⟨hk, hkp, hi3⟩ := hp
        obtain ⟨hr, hl, hb4⟩ := round_end (P := P) hb2 none hk
        exact ⟨_, _, hr, .inl ⟨rfl, ⟨hI.putObj _ hi3 (by omega) hl rfl, hb4⟩, hKt (hKt k2 hkp) (hKb _ _ _ _ (by omega) hl rfl rfl)⟩⟩
      | ret => exact left _ hp.1 hp.2
      | exit id => exact left _ hp.1 hp.2
      | goto t => exact left _ hp.1 hp.2
      | panic _ => exact hp.elim
      | outgrown => exact hp.elim
    · rintro e W2 ⟨⟨v, rfl⟩, (⟨xs, hS, hi, hb⟩ | ⟨pre, hSp, c, hi, hb⟩)⟩
      · exact ⟨none, _, run_endLoop hb.1 (by simp [r]), hdone _ xs _ (Nat.le_refl _) hS (hI.putObj _ hi (by omega) hb.1 rfl) (hb.put _).2⟩
      · exact ⟨some c, _, run_endLoop hb.1 (by simp), hstop _ c pre _ (Nat.le_refl _) hSp ((hIx c).putObj _ hi (by omega) hb.1 rfl) (hb.put _).2⟩
end

end Go.Proofs.YtjbjjfndkpcciaaGreatDoor

/- rec's Of: the sequence that it answers. Own work; no statement. -/
set_option linter.unusedSimpArgs false
set_option linter.unusedVariables false
namespace Go.Proofs.YtjbjjfndkpcciaaGreatDoor
open Go.RowKit Go.Shelf Go.Sort

attribute [local go_sem] Oper.semAt_some

/-- The blocks from lo up to hi are as they were. -/
def KeepsSpan (lo hi : Nat) (W W' : World) : Prop := ∀ k, lo ≤ k → k < hi → W'.heap[k]? = W.heap[k]?
theorem keepsSpan_t {lo hi : Nat} {A B C : World} (h : KeepsSpan lo hi A B) (k : KeepsSpan lo hi B C) : KeepsSpan lo hi A C := fun i h1 h2 => (k i h1 h2).trans (h i h1 h2)
theorem keepsSpan_b {lo hi n : Nat} (hn : hi ≤ n) (W : World) (l : Nat) (o o' : Obj) (hl : n ≤ l) (_ : W.heap[l]? = some o) (_ : o.isCells = false) (_ : o.isWalk = false) : KeepsSpan lo hi W (W.putObj l o') := by
  intro k _ h2
  unfold World.putObj
  simp only [Array.getElem?_setIfInBounds]
  rw [if_neg (by omega)]
theorem KeepsSpan.of_below {lo hi : Nat} {W W' : World} (h : Below W.heap.size W W') (hh : hi ≤ W.heap.size) : KeepsSpan lo hi W W' := fun k _ h2 => h.block k (by omega)

theorem KeepsSpan.size {lo hi : Nat} {W W' : World} (h : KeepsSpan lo hi W W') (hh : hi ≤ W.heap.size) (hl : lo < hi) : hi ≤ W'.heap.size := by
  have e := h (hi - 1) (by omega) (by omega)
  rw [Array.getElem?_eq_getElem (show hi - 1 < W.heap.size by omega)] at e
  have := (Array.getElem?_eq_some_iff.1 e).1
  omega

theorem flat6 : ∀ (pl : List Pl) (k j : Nat) (h : k < pl.length), j < 6 → (pl.flatMap Pl.cells)[k * 6 + j]? = (pl[k]).cells[j]?
  | [], _, _, h, _ => absurd h (by simp)
  | p :: pl, 0, j, _, hj => by
    rw [List.flatMap_cons, List.getElem?_append_left (by simp [Pl.cells]; omega)]
    simp
  | p :: pl, k + 1, j, h, hj => by
    rw [List.flatMap_cons, List.getElem?_append_right (by simp [Pl.cells]; omega)]
    have e : (k + 1) * 6 + j - p.cells.length = k * 6 + j := by simp [Pl.cells]; omega
    rw [e, flat6 pl k j (by simpa using h) hj]
    simp

/-- What the sequence hands over. -/
def encPl (x : Pl) : Array Value := #[.int .i64 x.i, .agg #[.int .i64 x.r.site, .int .i64 x.r.seq, x.vd, .string x.r.key, .string x.r.val]]
/-- From A the sequence has come to B: of what lay there nothing has turned, and x's numbers lie in memory of their own. -/
def GivesPl (x : Pl) (A B : World) : Prop := Below A.heap.size A B ∧ B.ownsRow A.heap.size 3 1 x.vd x.r.dep.length (x.r.dep.map (Value.int .i64)) ∧ x.r.dep.length ≤ 17592186044416

theorem yield_bool {e : Ending} {A B : Prop} (h : (e = .returned (.bool true) ∧ A) ∨ (e = .returned (.bool false) ∧ B)) : ∃ b, e = .returned (.bool b) ∧ ((b = true ∧ A) ∨ (b = false ∧ B)) := by
  rcases h with ⟨rfl, h⟩ | ⟨rfl, h⟩
  · exact ⟨true, rfl, .inl ⟨rfl, h⟩⟩
  · exact ⟨false, rfl, .inr ⟨rfl, h⟩⟩

end Go.Proofs.YtjbjjfndkpcciaaGreatDoor

/- The laws' Rows: what a range over numbers and records tells. Own work; no statement. -/
set_option linter.unusedSimpArgs false
set_option linter.unusedVariables false
namespace Go.Proofs.YtjbjjfndkpcciaaGreatDoor
open Go.RowKit Go.Shelf Go.Sort

attribute [local go_sem] Oper.semAt_some

theorem Tryz.info36 : (Tryz.prog.info? 36).map (fun i => (i.zero, i.size, i.bytes)) = some (some (.agg #[.int .i64 0, .int .i64 0, .slice none 0 0, .string ⟨#[]⟩, .string ⟨#[]⟩]), 5, 72) := by kernel_rfl

theorem size_set (W : World) (a : Addr) (v : Value) : (W.setCell a v).heap.size = W.heap.size := by simp [World.setCell]
/-- 'x = append(x, ..)' by way of x's box B, the rows all beyond the boxes. -/
theorem box_app {W w1 : World} {B n₀ : Nat} {T e : TypeId} {size : Nat} {v v1 : Value} {n m : Nat} {xs ys : List Value} {o : Obj} (hbx : Boxed W B T v) (hrow : W.ownsRow n₀ e size v n xs) (hB : B < n₀) (hn : n₀ ≤ W.heap.size)
    (hown1 : w1.ownsRow n₀ e size v1 m ys) (hgrow : (W.alloc o).grownBy w1 v.ownBlock) :
    Boxed w1 B T v ∧ Boxed (w1.setCell ⟨B, 0, none⟩ v1) B T v1 ∧ (w1.setCell ⟨B, 0, none⟩ v1).ownsRow n₀ e size v1 m ys ∧ KeepsOthers W (w1.setCell ⟨B, 0, none⟩ v1) ∧
      (∀ k, k < W.heap.size → k ≠ B → v.ownBlock ≠ some k → (w1.setCell ⟨B, 0, none⟩ v1).heap[k]? = W.heap[k]?) ∧ (∀ b w, b ≤ B → Below b w W → Below b w (w1.setCell ⟨B, 0, none⟩ v1)) := by
  have hne : some B ≠ v.ownBlock := fun e' => by have := (hrow.lt B e'.symm).1; omega
  have hv1 : Boxed w1 B T v := (hbx.alloc o).kept hgrow hne
  refine ⟨hv1, hv1.set v1, ownsRow_of_heap hown1 (fun k hk => Below.heap_setCell _ _ _ _ (fun e' => by have := (hown1.lt k hk).1; have e2 : k = B := e'; omega)), ?_, ?_, ?_⟩
  · refine ((KeepsOthers.alloc W o).trans (KeepsOthers.of_grownBy hgrow fun j o' ej hj => ?_)).trans (KeepsOthers.setCell _ _ _)
    rcases (hrow.alloc o).2 with ⟨rfl, _⟩ | ⟨g, cap, cur, rfl, _, hgb, _⟩
    · simp [Value.ownBlock] at ej
    · obtain rfl : g = j := by simpa [Value.ownBlock] using ej
      rw [hgb] at hj; cases hj; rfl
  · exact fun k hk hkB hkr => app_other hgrow k hk (fun e' => hkr e'.symm) hkB
  · intro b w hb h
    have := hbx.lt
    exact ((h.alloc (by omega) o).grown hgrow (by simp; omega) (fun j ej => by have := (hrow.lt j ej).1; omega)).setCell (p := ⟨B, 0, none⟩) hb v1

theorem keepsFrom_below {B : Nat} {A W : World} (h : Below A.heap.size A W) : KeepsFrom B A W := ⟨h.size, fun k o _ ho _ => keepB ho h⟩
theorem below_put {A W : World} {l : Nat} {o' : Obj} (h : Below A.heap.size A W) : Below (A.putObj l o').heap.size (A.putObj l o') (W.putObj l o') := by
  refine ⟨h.os, h.tape, h.output, by simpa [World.putObj] using h.size, fun k hk => ?_⟩
  have hk' : k < A.heap.size := by simpa [World.putObj] using hk
  have hs := h.size
  unfold World.putObj
  simp only [Array.getElem?_setIfInBounds]
  by_cases e : l = k
  · subst e
    rw [if_pos rfl, if_pos rfl, if_pos hk', if_pos (by omega)]
  · rw [if_neg e, if_neg e]
    exact h.block k hk'

def Pl.cells5 (p : Pl) : List Value := [.int .i64 p.r.site, .int .i64 p.r.seq, p.vd, .string p.r.key, .string p.r.val]

theorem five_one {p : Pl} {a : Option Addr} {n c : Nat} (h : p.vd = .slice a n c) : ∀ u ∈ p.cells5, u.oneCell' = true := by
  intro u hu
  simp only [Pl.cells5, h, List.mem_cons, List.not_mem_nil, or_false] at hu
  rcases hu with rfl | rfl | rfl | rfl | rfl <;> rfl

/-- What lies in the boxes of Rows, and in its rows. -/
structure InRows (o most : Nat) (la lb : List Pl) (W : World) (va vb : Value) : Prop where
  m : Boxed W o 3 (.int .i64 (most : Int))
  r1 : Boxed W (o + 1) 33 (.slice none 0 0)
  r2 : Boxed W (o + 2) 60 (.slice none 0 0)
  r3 : Boxed W (o + 3) 4 (.bool false)
  a : Boxed W (o + 4) 33 va
  b : Boxed W (o + 5) 60 vb
  ra : W.ownsRow (o + 6) 3 1 va la.length (la.map fun p => .int .i64 p.i)
  rb : W.ownsRow (o + 6) 36 5 vb lb.length (lb.flatMap Pl.cells5)

theorem row_keep {o : Nat} {W W' : World} (hk : ∀ (k : Nat) (c : Array Value) (t : TypeId) (f : Nat × Nat), W.heap[k]? = some (.cells c t f) → W'.heap[k]? = W.heap[k]?) {e : TypeId} {s : Nat} {v : Value} {n : Nat} {xs : List Value} (h : W.ownsRow o e s v n xs) : W'.ownsRow o e s v n xs :=
  ownsRow_of_heap h fun k e' => by
    rcases h.2 with ⟨rfl, _⟩ | ⟨g, cap, cur, rfl, _, hg, _⟩
    · cases e'
    · obtain rfl : g = k := by simpa [Value.ownBlock] using e'
      exact hk _ _ _ _ hg
theorem InRows.keep {o most : Nat} {la lb : List Pl} {W W' : World} {va vb : Value} (h : InRows o most la lb W va vb) (hk : ∀ (k : Nat) (c : Array Value) (t : TypeId) (f : Nat × Nat), W.heap[k]? = some (.cells c t f) → W'.heap[k]? = W.heap[k]?) : InRows o most la lb W' va vb :=
  ⟨boxed_of_heap h.m (hk _ _ _ _ h.m), boxed_of_heap h.r1 (hk _ _ _ _ h.r1), boxed_of_heap h.r2 (hk _ _ _ _ h.r2), boxed_of_heap h.r3 (hk _ _ _ _ h.r3), boxed_of_heap h.a (hk _ _ _ _ h.a), boxed_of_heap h.b (hk _ _ _ _ h.b), row_keep hk h.ra, row_keep hk h.rb⟩
theorem InRows.below {o most : Nat} {la lb : List Pl} {W W' : World} {va vb : Value} (h : InRows o most la lb W va vb) (hb : Below W.heap.size W W') : InRows o most la lb W' va vb :=
  h.keep fun k _ _ _ e => hb.block k (Array.getElem?_eq_some_iff.1 e).1

theorem InRows.appA {o most : Nat} {la lb : List Pl} {W w1 : World} {va vb v1 : Value} {p : Pl} {ob : Obj} (h : InRows o most la lb W va vb) (hown1 : w1.ownsRow (o + 6) 3 1 v1 (la.length + 1) ((la.map fun p => .int .i64 p.i) ++ [.int .i64 p.i])) (hgrow : (W.alloc ob).grownBy w1 va.ownBlock) :
    Boxed w1 (o + 4) 33 va ∧ InRows o most (la ++ [p]) lb (w1.setCell ⟨o + 4, 0, none⟩ v1) v1 vb ∧ KeepsOthers W (w1.setCell ⟨o + 4, 0, none⟩ v1) ∧ (∀ k, k < W.heap.size → k ≠ o + 4 → va.ownBlock ≠ some k → (w1.setCell ⟨o + 4, 0, none⟩ v1).heap[k]? = W.heap[k]?) ∧
      (∀ b w, b ≤ o + 4 → Below b w W → Below b w (w1.setCell ⟨o + 4, 0, none⟩ v1)) := by
  have hlt := h.b.lt
  obtain ⟨x1, x2, x3, x4, x5, x6⟩ := box_app h.a h.ra (by omega) (by omega) hown1 hgrow
  have bk : ∀ k, k < o + 6 → k ≠ o + 4 → (w1.setCell ⟨o + 4, 0, none⟩ v1).heap[k]? = W.heap[k]? := fun k hk hne => x5 k (by omega) hne (fun e => by have := (h.ra.lt k e).1; omega)
  refine ⟨x1, ⟨boxed_of_heap h.m (bk _ (by omega) (by omega)), boxed_of_heap h.r1 (bk _ (by omega) (by omega)), boxed_of_heap h.r2 (bk _ (by omega) (by omega)), boxed_of_heap h.r3 (bk _ (by omega) (by omega)), x2, boxed_of_heap h.b (bk _ (by omega) (by omega)), ?_, ?_⟩, x4, x5, x6⟩
  · rw [List.length_append, List.map_append]
    exact x3
  · exact ownsRow_of_heap h.rb fun k e => x5 k (h.rb.lt k e).2 (by have := (h.rb.lt k e).1; omega) (fun e' => rows_apart (by decide) h.rb h.ra k e e')
theorem InRows.appB {o most : Nat} {la lb : List Pl} {W w1 : World} {va vb v1 : Value} {p : Pl} {ob : Obj} (h : InRows o most la lb W va vb) (hown1 : w1.ownsRow (o + 6) 36 5 v1 (lb.length + 1) (lb.flatMap Pl.cells5 ++ p.cells5)) (hgrow : (W.alloc ob).grownBy w1 vb.ownBlock) :
    Boxed w1 (o + 5) 60 vb ∧ InRows o most la (lb ++ [p]) (w1.setCell ⟨o + 5, 0, none⟩ v1) va v1 ∧ KeepsOthers W (w1.setCell ⟨o + 5, 0, none⟩ v1) ∧ (∀ k, k < W.heap.size → k ≠ o + 5 → vb.ownBlock ≠ some k → (w1.setCell ⟨o + 5, 0, none⟩ v1).heap[k]? = W.heap[k]?) ∧
      (∀ b w, b ≤ o + 5 → Below b w W → Below b w (w1.setCell ⟨o + 5, 0, none⟩ v1)) := by
  have hlt := h.b.lt
  obtain ⟨x1, x2, x3, x4, x5, x6⟩ := box_app h.b h.rb (by omega) (by omega) hown1 hgrow
  have bk : ∀ k, k < o + 6 → k ≠ o + 5 → (w1.setCell ⟨o + 5, 0, none⟩ v1).heap[k]? = W.heap[k]? := fun k hk hne => x5 k (by omega) hne (fun e => by have := (h.rb.lt k e).1; omega)
  refine ⟨x1, ⟨boxed_of_heap h.m (bk _ (by omega) (by omega)), boxed_of_heap h.r1 (bk _ (by omega) (by omega)), boxed_of_heap h.r2 (bk _ (by omega) (by omega)), boxed_of_heap h.r3 (bk _ (by omega) (by omega)), boxed_of_heap h.a (bk _ (by omega) (by omega)), x2, ?_, ?_⟩, x4, x5, x6⟩
  · exact ownsRow_of_heap h.ra fun k e => x5 k (h.ra.lt k e).2 (by have := (h.ra.lt k e).1; omega) (fun e' => rows_apart (by decide) h.ra h.rb k e e')
  · rw [List.length_append, List.flatMap_append]
    simpa using x3

end Go.Proofs.YtjbjjfndkpcciaaGreatDoor

/- seg's All, and the sequence that it answers. Own work; no statement. -/
set_option linter.unusedSimpArgs false
set_option linter.unusedVariables false
namespace Go.Proofs.YtjbjjfndkpcciaaGreatDoor
open Go.RowKit Go.Shelf Go.Sort

attribute [local go_sem] Oper.semAt_some

/-- A box with a row of its own of slots: what All goes over. -/
structure IsSlots (w : World) (b c : Nat) (v : Value) (qs : List Nat) (l : List SlotD) : Prop where
  box : w.heap[b]? = some (.cells #[v] 142 (0, 0))
  row : w.ownsRow 0 177 1 v qs.length (qs.map ptrV)
  len : qs.length = l.length
  each : ∀ i (h : i < qs.length) (h' : i < l.length), SlotAt w c qs[i] l[i]

theorem IsSlots.span {w w' : World} {b c : Nat} {v : Value} {qs : List Nat} {l : List SlotD} (h : IsSlots w b c v qs l) (hk : ∀ k, k < w.heap.size → w'.heap[k]? = w.heap[k]?) : IsSlots w' b c v qs l := by
  refine ⟨(hk b (ltAt h.box)).trans h.box, ownsRow_of_heap h.row fun k e => hk k (h.row.lt k e).2, h.len, fun i h1 h2 => ?_⟩
  obtain ⟨vd, x1, x2, x3⟩ := h.each i h1 h2
  exact ⟨vd, x1, (hk _ (ltAt x2)).trans x2, ownsRow_of_heap x3 fun k e => hk k (x3.lt k e).2⟩

set_option maxHeartbeats 2000000 in
theorem segAll_calls (B : Nat) (m : SegM) (S : SegD) (w : World) (hd : IsSeg w B m S) :
    Calls Tryz.prog 179 #[.pointer (some ⟨m.p, 0, none⟩)] w fun e w' => ∃ b v qs, e = .returned (.func (.func 208) #[] #[.pointer (some ⟨b, 0, none⟩)]) ∧ IsSlots w' b m.c v qs S.slots ∧ Below w.heap.size w w' := by
  have hmf : ∀ (fn : Fn) (first cap : Array Value) (w : World), (Instr.makeFunc fn first cap).run Tryz.prog w = .ok (.func fn first cap) w := fun _ _ _ _ => rfl
  obtain ⟨v, qs, hv, hl, hp, hr, hs⟩ := hd.val
  have hlen := hd.disk.len
  have hfew := hd.ok.few
  obtain ⟨a, cap, rfl⟩ := ownsRow_slice hr
  have C := hide (cloneSlots_calls B _ qs w hr (by omega))
  have c3 := (cells4 hp).2.2.2.1
  have Hs := hide hs
  have Hl := hide hl
  clear hd hr hp hv hs hl
  go_enter Tryz.func179, Tryz.ntmps179
  go_wp2_with fail
  refine C.out.mono ?_
  rintro e w1 ⟨v', rfl, hown, hB1⟩
  obtain ⟨a', cap', rfl⟩ := ownsRow_slice hown
  go_wp2_with fail
  go_ret
  have hB2 := hB1.alloc hB1.size (.cells #[.slice a' qs.length cap'] 142)
  exact ⟨w1.heap.size, .slice a' qs.length cap', qs, rfl, ⟨World.alloc_heap_new w1 _, ownsRow_low (World.ownsRow.alloc hown _) (Nat.zero_le _), Hl.out, fun i h1 h2 => (Hs.out i h1 h2).below hB2⟩, hB2⟩

set_option maxRecDepth 100000 in
set_option maxHeartbeats 4000000 in
theorem segAll1_in (n : Nat) (hn : 1 ≤ n) (lp b c hi : Nat) (v : Value) (qs : List Nat) (l : List SlotD) (hlen : l.length ≤ 1048576) (hd : ∀ p ∈ l, p.r.dep.length ≤ 17592186044416) (J Jx : List Pl → World → Prop)
    (hY : ∀ pre x A W, J pre A → GivesPl x A W → pre.length < l.length → YieldAt Fence.wide (n - 1) Tryz.prog lp (encPl x) W fun e W' =>
      (e = .returned (.bool true) ∧ J (pre ++ [x]) W' ∧ KeepsSpan 0 hi W W') ∨ (e = .returned (.bool false) ∧ Jx (pre ++ [x]) W'))
    (W : World) (hhi : hi ≤ W.heap.size) (hpos : 0 < hi) (hbl : ∀ W', KeepsSpan 0 hi W W' → IsSlots W' b c v qs l) (h0 : J [] W) :
    CallsIn Fence.wide n Tryz.prog 208 #[.func (.yield lp) #[] #[], .pointer (some ⟨b, 0, none⟩)] W fun e W' => (∃ v, e = .returned v) ∧
      ((∃ ys, ys.map (fun p => (p.i, p.r)) = l.map (fun p => (p.pos, p.r)) ∧ J ys W') ∨ (∃ pre, pre.map (fun p => (p.i, p.r)) <+: l.map (fun p => (p.pos, p.r)) ∧ Jx pre W')) := by
  refine callsIn_of_wp Tryz.func208 rfl trivial ?_ rfl
  simp only [Tryz.ntmps208, List.size_toArray, List.length_cons, List.length_nil, Nat.reduceAdd, Nat.reduceSub, Array.replicate_succ, Array.replicate_zero, List.push_toArray, List.append_toArray, List.nil_append, List.cons_append]
  have hA := hbl W (fun _ _ _ => rfl)
  have hql := hA.len
  obtain ⟨va, vcap, rfl⟩ := ownsRow_slice hA.row
  have HY := hide hY
  have Hbl := hide hbl
  have Hd := hide hd
  have hbc := cellsAt hA.box 0
  simp only [List.getElem?_toArray, List.getElem?_cons_zero] at hbc
  rw [hql] at hbc
  have Hql := hide hql
  clear hY hbl hd hA hql
  gi_wp2
  clear hbc
  gi_loopw [7] (fun i wr => ∃ (k : Nat) (pre : List Pl), k ≤ l.length ∧ i = .int .i64 (k : Int) ∧ pre.map (fun p => (p.i, p.r)) = (l.take k).map (fun p => (p.pos, p.r)) ∧ J pre wr ∧ KeepsSpan 0 hi W wr) (fun i _ => l.length - (intOf i).toNat)
  case atStart => exact ⟨0, [], Nat.zero_le _, rfl, rfl, h0, fun _ _ _ => rfl⟩
  case round =>
    obtain ⟨k, pre, hk, rfl, hpre, hJs, hks⟩ := hrel
    have hsz := hks.size hhi hpos
    by_cases hlt : k < l.length
    · have hltI : (k : Int) < (l.length : Int) := by omega
      have hofr := Hbl.out wr hks
      have hkq : k < qs.length := by have := Hql.out; omega
      obtain ⟨vd, -, hq, hrow⟩ := hofr.each k hkq hlt
      rcases hofr.row.2 with ⟨e1, e2⟩ | ⟨g, cap', cur, e1, hgb, hg, hnc, hcm, hcs, htk⟩
      · omega
      · obtain ⟨rfl, rfl⟩ : va = some ⟨g, 0, none⟩ ∧ vcap = cap' := by simp at e1; exact e1
        have cq : wr.cell? ⟨g, k, none⟩ = some (.pointer (some ⟨qs[k], 0, none⟩)) := by
          rw [hofr.row.cellAt k (by omega)]
          simp [ptrV, hkq]
        have hmem := List.getElem_mem hlt
        have hdl := Hd.out _ hmem
        have htk2 : (l.take (k + 1)).map (fun p => (p.pos, p.r)) = (l.take k).map (fun p => (p.pos, p.r)) ++ [((l[k]).pos, (l[k]).r)] := by rw [List.take_succ_eq_append_getElem hlt, List.map_append]; rfl
        obtain ⟨p, hp⟩ : ∃ p, l[k] = p := ⟨_, rfl⟩
        rw [hp] at hq hrow hdl htk2
        obtain ⟨pi, ln, ⟨site, seq, dep, key, val⟩⟩ := p
        generalize qs[k] = q at *
        dsimp only at *
        obtain ⟨da, dcap, rfl⟩ := ownsRow_slice hrow
        obtain ⟨c0, -, c2, c3, c4, c5, c6, -, -, -, -, -, -, -⟩ := cells7 hq
        have HB1 : Below wr.heap.size wr wr.drew := (Below.refl _ wr).drew
        have C := hide (segCopied_calls (.agg #[.int .i64 site, .int .i64 seq, .slice da dep.length dcap, .string key, .string val]) ⟨site, seq, dep, key, val⟩ wr.drew ⟨da, dcap, rfl, (IsNums.of_row hrow).below HB1⟩ hdl)
        have Y0 := hide (show wr.drew.heap[q]? = _ from hq)
        have hplen : pre.length = k := by have := congrArg List.length hpre; simpa [Nat.min_eq_left hk] using this
        have HB2 := hide HB1
        have Htk2 := hide htk2
        have Hpre := hide hpre
        have Hpl := hide hplen
        clear hofr hg hnc hcm hcs htk hrow hp hq HB1 htk2 hpre hplen e1
        gi_wp2
        gi_region_with (first | (refine ⟨trivial, ?_⟩; gi_at_call 133; refine ((callsIn_wide (n := _)).2 C.out).mono ?_; rintro e w3 ⟨v', rfl, hrecw, hb⟩; obtain ⟨vd', rfl, hvd'⟩ := hrecw; obtain ⟨va', vcap', rfl⟩ := ownsRow_slice hvd'; have hB3 := HB2.out.trans (hb.mono HB2.out.size); obtain ⟨fn, tmps, assign, body, hy, hR⟩ := HY.out pre ⟨pi, ⟨site, seq, dep, key, val⟩, .slice va' dep.length vcap'⟩ wr w3 hJs ⟨hB3, hvd', hdl⟩ (by have := Hpl.out; omega); dsimp only [encPl] at hy; have d0 := (cells7 (keepB Y0.out hb)).1) | (refine hR.mono ?_; rintro e W4 hW4; obtain ⟨b, rfl, hb4⟩ := yield_bool hW4))
        all_goals
          rcases hb4 with ⟨rfl, hJ4, hk4⟩ | ⟨rfl, hJx4⟩
          · gi_wp2
            exact ⟨⟨k + 1, _, by omega, by go_num, by rw [List.map_append, Hpre.out, Htk2.out]; rfl, hJ4, keepsSpan_t hks (keepsSpan_t (KeepsSpan.of_below hB3 hsz) hk4)⟩, by simp [intOf]; omega⟩
          · gi_wp2
            refine bodyPost_ret (results_none rfl _ _ _) rfl ?_
            refine ⟨⟨_, rfl⟩, .inr ⟨_, ?_, hJx4⟩⟩
            rw [List.map_append, Hpre.out]
            refine ⟨(l.drop (k + 1)).map (fun p => (p.pos, p.r)), ?_⟩
            have e := Htk2.out
            simp only [List.map_cons, List.map_nil]
            rw [← e, ← List.map_append, List.take_append_drop]
    · obtain rfl : k = l.length := by omega
      gi_wp2
      go_end0
      exact ⟨⟨_, rfl⟩, .inl ⟨pre, by rw [hpre, List.take_of_length_le (Nat.le_refl _)], hJs⟩⟩

/-- What All answers: a sequence that goes over the records, rising, as long as it is asked. -/
theorem segAll_stops (n : Nat) (hn : 1 ≤ n) (b c : Nat) (v : Value) (qs : List Nat) (l : List SlotD) (hlen : l.length ≤ 1048576) (hd : ∀ p ∈ l, p.r.dep.length ≤ 17592186044416) (w0 w : World) (hA : IsSlots w0 b c v qs l) (hw : Below w0.heap.size w0 w) :
    SeqR n Tryz.prog 208 #[.pointer (some ⟨b, 0, none⟩)] encPl (KeepsSpan 0 w0.heap.size) GivesPl (fun ys => ys.map (fun p => (p.i, p.r)) = l.map (fun p => (p.pos, p.r)))
      (fun pre => pre.map (fun p => (p.i, p.r)) <+: l.map (fun p => (p.pos, p.r))) l.length w := fun lp J Jx W hW hY h0 =>
  have hW0 : Below w0.heap.size w0 W := hw.trans (hW.mono hw.size)
  segAll1_in n hn lp b c w0.heap.size v qs l hlen hd J Jx hY W hW0.size (Nat.lt_of_le_of_lt (Nat.zero_le _) (ltAt hA.box))
    (fun W' hk => hA.span fun k h2 => (hk k (Nat.zero_le _) h2).trans (hW0.block k h2)) h0

end Go.Proofs.YtjbjjfndkpcciaaGreatDoor
