/- Own work: the parts G24, G25, G26, G3, G27, G28 of the proof, laid together. -/
import Derived.Test.YtjbjjfndkpcciaaGreatDoorPartLogStripes18
import Derived.Test.YtjbjjfndkpcciaaGreatDoorPartLogStripes11
/- Whether a segment has a record from a position on. Own work; no statement. -/
set_option linter.unusedSimpArgs false
set_option linter.unusedVariables false
namespace Go.Proofs.YtjbjjfndkpcciaaGreatDoor
open Go.RowKit Go.Shelf Go.Sort

attribute [local go_sem] Oper.semAt_some

/-- Whether one of the segments has a record at pos or behind it. -/
def reachS (Ss : List SegD) (pos : Int) : Bool := Ss.any fun S => S.slots.any fun x => decide (pos ≤ x.pos)

/-- Marks of loops over functions that have ended. -/
def marks (ds : List Nat) : List Deferred := ds.map fun D => { target := .collected D, args := #[] }
structure Marks (lo : Nat) (W : World) (ds : List Nat) : Prop where
  nodup : ds.Nodup
  each : ∀ D ∈ ds, lo ≤ D ∧ W.heap[D]? = some (.deferred (some []))
theorem Marks.of {lo : Nat} {W W' : World} {ds : List Nat} (h : Marks lo W ds) (k : ∀ D ∈ ds, W'.heap[D]? = W.heap[D]?) : Marks lo W' ds := ⟨h.nodup, fun D hD => ⟨(h.each D hD).1, (k D hD).trans (h.each D hD).2⟩⟩
theorem Marks.below {lo : Nat} {W W' : World} {ds : List Nat} (h : Marks lo W ds) (hb : Go.RowKit.Below W.heap.size W W') : Marks lo W' ds := h.of fun D hD => hb.block D (ltAt (h.each D hD).2)
theorem leaves_marks {P : Program} {F : Fence} {n : Nat} {fn : Func} {tmps : Array Value} {R : Ending → World → Prop} (lo : Nat) : ∀ (ds : List Nat) (W : World), Marks lo W ds → (∀ W', Go.RowKit.Below lo W W' → LeavesIn F n P fn tmps R [] .returning W') → LeavesInM F n P fn tmps R (marks ds) .returning W
  | [], W, _, h => h W (Below.refl _ W)
  | D :: r, W, hm, h => by
    obtain ⟨hlo, hD⟩ := hm.each D List.mem_cons_self
    have hnd := List.nodup_cons.1 hm.nodup
    have hput : ∀ k, k ≠ D → (W.putObj D (.deferred none)).heap[k]? = W.heap[k]? := fun k hk => by
      unfold World.putObj
      simp only [Array.getElem?_setIfInBounds]
      rw [if_neg fun e => hk e.symm]
    have hb : Go.RowKit.Below lo W (W.putObj D (.deferred none)) := ⟨rfl, rfl, rfl, by simp [World.putObj], fun k hk => hput k (by omega)⟩
    refine ⟨by simp, .inl ⟨D, _, rfl, run_takeDeferred hD, leaves_marks lo r _ ?_ fun W' hW' => h W' (hb.trans hW')⟩⟩
    exact ⟨hnd.2, fun k hk => ⟨(hm.each k (List.mem_cons_of_mem _ hk)).1, (hput k fun e => hnd.1 (e ▸ hk)).trans (hm.each k (List.mem_cons_of_mem _ hk)).2⟩⟩

/-- Within reach's loops. -/
structure InReach (w W : World) (pos : Int) (found : Bool) (ds : List Nat) : Prop where
  b1 : Boxed W (w.heap.size + 1) 3 (.int .i64 pos)
  b2 : Boxed W (w.heap.size + 2) 4 (.bool found)
  marks : Marks (w.heap.size + 3) W ds
  below : Go.RowKit.Below w.heap.size w W
theorem InReach.keep {w W W' : World} {pos : Int} {found : Bool} {ds : List Nat} (h : InReach w W pos found ds) (hb : Go.RowKit.Below W.heap.size W W') : InReach w W' pos found ds :=
  ⟨boxed_of_heap h.b1 (hb.block _ h.b1.lt), boxed_of_heap h.b2 (hb.block _ h.b2.lt), h.marks.below hb, h.below.trans (hb.mono h.below.size)⟩
theorem InReach.own {w X Y : World} {pos : Int} {found : Bool} {ds : List Nat} {row : Option Nat} {hi : Nat} (h : InReach w X pos found ds) (hds : ∀ D ∈ ds, D < hi) (hhi : w.heap.size ≤ hi) (hg : X.grownBy Y row) (hrow : ∀ r, row = some r → hi ≤ r ∧ ∃ o : Obj, X.heap[r]? = some o ∧ o.isCells = false) : InReach w Y pos found ds := by
  have hr := fun r e => (hrow r e).2
  refine ⟨boxed_own' hg hr h.b1, boxed_own' hg hr h.b2, h.marks.of fun D hD => hg.block D (ltAt (h.marks.each D hD).2) fun e => ?_, ownFrom_below (β := Unit) (Nat.le_refl _) hhi () _ _ _ h.below hg hrow⟩
  have := (hrow D e.symm).1
  have := hds D hD
  omega

set_option maxHeartbeats 4000000 in
set_option maxRecDepth 100000 in
theorem reach_calls (B : Nat) (pos : Int) (ss : List SegM) (Ss : List SegD) (w : World) (hs : Segs w B ss Ss) (hok : ∀ S ∈ Ss, S.ok) (p0 p1 p2 p3 p4 p5 p6 p7 : Nat) (hps : ptrs ss = [p0, p1, p2, p3, p4, p5, p6, p7]) :
    Calls Tryz.prog 130 #[.agg #[.pointer (some ⟨p0, 0, none⟩), .pointer (some ⟨p1, 0, none⟩), .pointer (some ⟨p2, 0, none⟩), .pointer (some ⟨p3, 0, none⟩), .pointer (some ⟨p4, 0, none⟩), .pointer (some ⟨p5, 0, none⟩), .pointer (some ⟨p6, 0, none⟩), .pointer (some ⟨p7, 0, none⟩)], .int .i64 pos] w fun e w' => e = .returned (.bool (reachS Ss pos)) ∧ Go.RowKit.Below w.heap.size w w' := by
  have h8 : ss.length = 8 := by have := congrArg List.length hps; simpa [ptrs] using this
  refine (callsIn_wide (n := 5)).1 ?_
  refine callsIn_of_wp_marks Tryz.func130 rfl trivial ?_ rfl
  simp only [Tryz.ntmps130, List.size_toArray, List.length_cons, List.length_nil, Nat.reduceAdd, Nat.reduceSub, Array.replicate_succ, Array.replicate_zero, List.push_toArray, List.append_toArray, List.nil_append, List.cons_append]
  refine wpIn_wide.2 ?_
  go_wp2_with fail
  go_step3
  go_wp2_with fail
  simp only [Nat.add_assoc, Nat.reduceAdd]
  obtain ⟨W0, hW0⟩ : ∃ W0, ((w.alloc (.cells #[.pointer (some ⟨p0, 0, none⟩), .pointer (some ⟨p1, 0, none⟩), .pointer (some ⟨p2, 0, none⟩), .pointer (some ⟨p3, 0, none⟩), .pointer (some ⟨p4, 0, none⟩), .pointer (some ⟨p5, 0, none⟩), .pointer (some ⟨p6, 0, none⟩), .pointer (some ⟨p7, 0, none⟩)] 83)).alloc (.cells #[.int .i64 pos] 3)).alloc (.cells #[.bool false] 4) = W0 := ⟨_, rfl⟩
  have HB0 : Go.RowKit.Below w.heap.size w W0 := by rw [← hW0]; exact (((Below.refl _ w).alloc (Nat.le_refl _) _).alloc (by simp) _).alloc (by simp; omega) _
  have hs0 : W0.heap.size = w.heap.size + 3 := by rw [← hW0]; simp
  have xa : W0.heap[w.heap.size]? = some (.cells #[.pointer (some ⟨p0, 0, none⟩), .pointer (some ⟨p1, 0, none⟩), .pointer (some ⟨p2, 0, none⟩), .pointer (some ⟨p3, 0, none⟩), .pointer (some ⟨p4, 0, none⟩), .pointer (some ⟨p5, 0, none⟩), .pointer (some ⟨p6, 0, none⟩), .pointer (some ⟨p7, 0, none⟩)] 83 (0, 0)) := by
    rw [← hW0]; exact (Below.heap_alloc _ _ _ (by simp; omega)).trans ((Below.heap_alloc _ _ _ (by simp)).trans (World.alloc_heap_new w _))
  have x1 : Boxed W0 (w.heap.size + 1) 3 (.int .i64 pos) := by
    have := (Boxed.new (w.alloc (.cells #[.pointer (some ⟨p0, 0, none⟩), .pointer (some ⟨p1, 0, none⟩), .pointer (some ⟨p2, 0, none⟩), .pointer (some ⟨p3, 0, none⟩), .pointer (some ⟨p4, 0, none⟩), .pointer (some ⟨p5, 0, none⟩), .pointer (some ⟨p6, 0, none⟩), .pointer (some ⟨p7, 0, none⟩)] 83)) 3 (.int .i64 pos)).alloc (.cells #[.bool false] 4)
    rw [hW0, World.size_alloc] at this
    exact this
  have x2 : Boxed W0 (w.heap.size + 2) 4 (.bool false) := by
    have := Boxed.new ((w.alloc (.cells #[.pointer (some ⟨p0, 0, none⟩), .pointer (some ⟨p1, 0, none⟩), .pointer (some ⟨p2, 0, none⟩), .pointer (some ⟨p3, 0, none⟩), .pointer (some ⟨p4, 0, none⟩), .pointer (some ⟨p5, 0, none⟩), .pointer (some ⟨p6, 0, none⟩), .pointer (some ⟨p7, 0, none⟩)] 83)).alloc (.cells #[.int .i64 pos] 3)) 4 (.bool false)
    rw [hW0, World.size_alloc, World.size_alloc] at this
    exact this
  rw [hW0]
  obtain ⟨k0, k1, k2, k3, k4, k5, k6, k7⟩ := cells8 xa
  clear hW0
  go_step3
  go_wp2_with fail
  have i0 : InReach w W0 pos false [] := ⟨x1, x2, ⟨List.nodup_nil, fun D h => by cases h⟩, HB0⟩
  have Hs := hide hs
  have Hok := hide hok
  have Hps := hide hps
  clear k0 k1 k2 k3 k4 k5 k6 k7 xa x1 x2 hs hok hps
  refine wp_loop_ghost_k (fun g a W => ∃ (j : Nat) (ds : List Nat) (u7 u11 u12 u13 u14 u20 : Value), g = 8 - j ∧ j ≤ 8 ∧ a = { tmps := #[.agg #[.pointer (some ⟨p0, 0, none⟩), .pointer (some ⟨p1, 0, none⟩), .pointer (some ⟨p2, 0, none⟩), .pointer (some ⟨p3, 0, none⟩), .pointer (some ⟨p4, 0, none⟩), .pointer (some ⟨p5, 0, none⟩), .pointer (some ⟨p6, 0, none⟩), .pointer (some ⟨p7, 0, none⟩)], .int .i64 pos, .pointer (some ⟨w.heap.size, 0, none⟩), .pointer (some ⟨w.heap.size + 1, 0, none⟩), .bool false, .pointer (some ⟨w.heap.size + 2, 0, none⟩), undef, u7, undef, .agg #[.pointer (some ⟨p0, 0, none⟩), .pointer (some ⟨p1, 0, none⟩), .pointer (some ⟨p2, 0, none⟩), .pointer (some ⟨p3, 0, none⟩), .pointer (some ⟨p4, 0, none⟩), .pointer (some ⟨p5, 0, none⟩), .pointer (some ⟨p6, 0, none⟩), .pointer (some ⟨p7, 0, none⟩)], .int .i64 (j : Int), u11, u12, u13, u14, undef, undef, undef, undef, undef, u20, undef], defers := marks ds } ∧ InReach w W pos false ds ∧ ∀ i S, i < j → Ss[i]? = some S → ∀ x ∈ S.slots, x.pos < pos) 8 ⟨0, [], undef, undef, undef, undef, undef, undef, rfl, by omega, rfl, i0, fun i S h => absurd h (Nat.not_lt_zero i)⟩ ?_
  rintro g a W ⟨j, ds, u7, u11, u12, u13, u14, u20, rfl, hj, rfl, hI, hno⟩ J K hJ hK
  have Hno := hide hno
  have HI := hide hI
  have HJ := hide hJ
  clear hno hI hJ i0 HB0
  by_cases hlt8 : j < 8
  · have hltI : (j : Int) < 8 := by omega
    obtain ⟨s, S, hss, hSS, hX⟩ := Hs.out.at (k := j) (by omega)
    have hq : [p0, p1, p2, p3, p4, p5, p6, p7][j]? = some s.p := by rw [← Hps.out]; exact ptrs_get hss
    have hix := fun w => idx8p p0 p1 p2 p3 p4 p5 p6 p7 j s.p hq w
    have hSok := Hok.out S (List.mem_of_getElem? hSS)
    have C1 := hide (segAll_calls B s S W ((hX.seg hSok).keep HI.out.below))
    have HS := hide hSS
    have HSok := hide hSok
    have hfew := Nat.le_trans hSok.few hX.disk.len.1
    clear hss hSS hX hSok hq
    go_wp2_with fail
    refine C1.out.mono ?_
    rintro e w1 ⟨b, v, qs, rfl, hA, hb1⟩
    have HI1 := hide (HI.out.keep hb1)
    have HA := hide hA
    have hsz1 := HI1.out.below.size
    have hds : ∀ D ∈ ds, D < w1.heap.size := fun D hD => ltAt (HI1.out.marks.each D hD).2
    have Hds := hide hds
    have hw3 : w.heap.size + 2 < w1.heap.size := HI1.out.b2.lt
    clear hA hb1 C1 hix hds HI
    go_wp2_with fail
    refine (wpIn_wide (n := 5)).1 ?_
    refine range_lawR (by decide) (gf := 208) (lb := #[.pointer (some ⟨b, 0, none⟩)]) rfl (enters_of Tryz.func208 (by kernel_rfl) rfl)
      (segAll_stops 4 (by decide) b s.c v qs S.slots hfew (fun x hx => by have := (HSok.out.each x hx).2.2.2.2.b; have := this.len; omega) w1 w1 HA.out (Below.refl _ _)) keepsSpan_t (keepsSpan_b (Nat.le_refl _)) ?hE (fun _ => rfl)
      (fun pre W => InReach w W pos false ds ∧ ∀ x ∈ pre, x.i < pos)
      (fun c pre W => c = .exit 0 ∧ InReach w W pos true ds ∧ ∃ x ∈ pre, pos ≤ x.i)
      (fun k X Y row hs hg hr => ⟨hs.1.own Hds.out (by omega) hg hr, hs.2⟩)
      (fun c => fun k X Y row hs hg hr => ⟨hs.1, hs.2.1.own Hds.out (by omega) hg hr, hs.2.2⟩)
      ⟨HI1.out, fun x h => by cases h⟩
      (fun x A a' W => Go.RowKit.Below A.heap.size A W ∧ a' = { tmps := #[.agg #[.pointer (some ⟨p0, 0, none⟩), .pointer (some ⟨p1, 0, none⟩), .pointer (some ⟨p2, 0, none⟩), .pointer (some ⟨p3, 0, none⟩), .pointer (some ⟨p4, 0, none⟩), .pointer (some ⟨p5, 0, none⟩), .pointer (some ⟨p6, 0, none⟩), .pointer (some ⟨p7, 0, none⟩)], .int .i64 pos, .pointer (some ⟨w.heap.size, 0, none⟩), .pointer (some ⟨w.heap.size + 1, 0, none⟩), .bool false, .pointer (some ⟨w.heap.size + 2, 0, none⟩), undef, .pointer (some ⟨s.p, 0, none⟩), .int .i64 x.i, .agg #[.pointer (some ⟨p0, 0, none⟩), .pointer (some ⟨p1, 0, none⟩), .pointer (some ⟨p2, 0, none⟩), .pointer (some ⟨p3, 0, none⟩), .pointer (some ⟨p4, 0, none⟩), .pointer (some ⟨p5, 0, none⟩), .pointer (some ⟨p6, 0, none⟩), .pointer (some ⟨p7, 0, none⟩)], .int .i64 (j : Int), .bool true, .pointer (some ⟨s.p, 0, none⟩), .pointer (some ⟨s.p, 0, none⟩), .func (.func 208) #[] #[.pointer (some ⟨b, 0, none⟩)], .int .i64 x.i, .agg #[.int .i64 x.r.site, .int .i64 x.r.seq, x.vd, .string x.r.key, .string x.r.val], undef, undef, undef, u20, undef], defers := [] })
      ?hAp ?assign ?body ?done ?stop
    case hE => exact fun x A W h => keepsFrom_below h.1
    case hAp =>
      rintro x A a' W l o o' ⟨h1, h2⟩ _ hAl hWl ho
      exact ⟨below_put h1, h2⟩
    case assign =>
      rintro l pre ⟨xi, ⟨site, seq, dep, key, val⟩, vd⟩ A W K hI hE hlt hK
      have hE1 := hE.1
      dsimp only [encPl] at *
      clear hE
      replace hK := hide hK
      gi_wp2
      exact hK.out _ _ ⟨hE1, rfl⟩ (keepsFrom_below (Below.refl _ _)) (fun _ _ _ => rfl)
    case body =>
      rintro lp pre x A a' W ⟨hIA, hpre⟩ ⟨hAW, rfl⟩ hlt
      have hI2 := hIA.keep hAW
      have c1 := hI2.b1.cell
      have c2 := hI2.b2.cell
      have f2 := hI2.b2.frozen
      have HI2 := hide hI2
      clear hI2 hIA hAW
      by_cases hx : pos ≤ x.i
      · gi_wp2_with fail
        have hother : ∀ k, k ≠ w.heap.size + 2 → (W.setCell ⟨w.heap.size + 2, 0, none⟩ (.bool true)).heap[k]? = W.heap[k]? := fun k hk => Below.heap_setCell _ _ _ _ hk
        exact ⟨(KeepsOthers.setCell _ _ _).from _, rfl, ⟨boxed_of_heap HI2.out.b1 (hother _ (by omega)), HI2.out.b2.set _, HI2.out.marks.of fun D hD => hother D (by have := (HI2.out.marks.each D hD).1; omega), HI2.out.below.setCell (p := ⟨w.heap.size + 2, 0, none⟩) (by simp) _⟩, x, by simp, hx⟩
      · gi_wp2_with fail
        refine ⟨keepsFrom_below (Below.refl _ _), fun _ _ _ => rfl, HI2.out, fun y hy => ?_⟩
        rcases List.mem_append.1 hy with h | h
        · exact hpre y h
        · rw [List.mem_singleton] at h
          rw [h]
          omega
    case done =>
      rintro D xs W2 hD hxs ⟨hI2, hall⟩ hmk
      have hlt : ∀ x ∈ S.slots, x.pos < pos := fun x hx => by
        have h1 : (x.pos, x.r) ∈ S.slots.map fun p => (p.pos, p.r) := List.mem_map.2 ⟨x, hx, rfl⟩
        rw [← hxs] at h1
        obtain ⟨y, hy, e⟩ := List.mem_map.1 h1
        have := hall y hy
        have e1 : y.i = x.pos := congrArg Prod.fst e
        omega
      have hmks : Marks (w.heap.size + 3) W2 (D :: ds) := ⟨List.nodup_cons.2 ⟨fun h => by have := Hds.out D h; omega, hI2.marks.nodup⟩, fun k hk => by
        rcases List.mem_cons.1 hk with rfl | hk
        · exact ⟨by omega, hmk⟩
        · exact hI2.marks.each k hk⟩
      have HN := hide (show InReach w W2 pos false (D :: ds) ∧ ∀ i S, i < j + 1 → Ss[i]? = some S → ∀ x ∈ S.slots, x.pos < pos from ⟨⟨hI2.b1, hI2.b2, hmks, hI2.below⟩, fun i S1 hi hS1 => by
        rcases Nat.lt_or_ge i j with h | h
        · exact Hno.out i S1 h hS1
        · obtain rfl : i = j := by omega
          rw [HS.out] at hS1
          cases hS1
          exact hlt⟩)
      clear hxs hall hI2 hmk hmks hlt
      go_wp2_with fail
      exact Handed.intro (8 - (j + 1)) (by omega) (HJ.out _ _ _ ⟨j + 1, D :: ds, _, _, _, _, _, _, rfl, by omega, by rw [Int.natCast_succ]; rfl, HN.out.1, HN.out.2⟩)
    case stop =>
      rintro D c pre W2 hD hpre ⟨rfl, hI2, x, hx, hxp⟩ hmk
      have hmks : Marks (w.heap.size + 3) W2 (D :: ds) := ⟨List.nodup_cons.2 ⟨fun h => by have := Hds.out D h; omega, hI2.marks.nodup⟩, fun k hk => by
        rcases List.mem_cons.1 hk with rfl | hk
        · exact ⟨by omega, hmk⟩
        · exact hI2.marks.each k hk⟩
      have hr : reachS Ss pos = true := by
        have h1 : (x.i, x.r) ∈ pre.map fun p => (p.i, p.r) := List.mem_map.2 ⟨x, hx, rfl⟩
        have h2 := hpre.subset h1
        obtain ⟨y, hy, e⟩ := List.mem_map.1 h2
        have e1 : y.pos = x.i := congrArg Prod.fst e
        unfold reachS
        exact List.any_eq_true.2 ⟨S, List.mem_of_getElem? HS.out, List.any_eq_true.2 ⟨y, hy, by simp; omega⟩⟩
      have c2 := hI2.b2.cell
      have Hr := hide hr
      have HM := hide hmks
      have HB := hide hI2.below
      clear hpre hI2 hmk hmks hr
      refine (wpIn_wide (n := 5)).2 ?_
      go_wp2_with fail
      exact leaves_marks (w.heap.size + 3) (D :: ds) W2 HM.out fun W' hW' => ⟨.bool true, by simp [results, Tryz.f130, go_sem], by rw [Hr.out], HB.out.trans (hW'.mono (by omega))⟩
  · have hltI : ¬ (j : Int) < 8 := by omega
    have e8 : j = 8 := by omega
    have c2 := HI.out.b2.cell
    have hr : reachS Ss pos = false := by
      cases h : reachS Ss pos with
      | false => rfl
      | true =>
        exfalso
        unfold reachS at h
        obtain ⟨S, hS, h1⟩ := List.any_eq_true.1 h
        obtain ⟨x, hx, h2⟩ := List.any_eq_true.1 h1
        obtain ⟨i, hi, rfl⟩ := List.mem_iff_getElem.1 hS
        have := Hno.out i _ (by have := Hs.out.len; omega) (List.getElem?_eq_getElem hi) x hx
        have := of_decide_eq_true h2
        omega
    have Hr := hide hr
    clear hr
    go_wp2_with fail
    exact leaves_marks (w.heap.size + 3) ds W HI.out.marks fun W' hW' => ⟨.bool false, by simp [results, Tryz.f130, go_sem], by rw [Hr.out], HI.out.below.trans (hW'.mono (by omega))⟩

end Go.Proofs.YtjbjjfndkpcciaaGreatDoor

/- A log's cut; its segments are others. Own work; no statement. -/
set_option linter.unusedSimpArgs false
set_option linter.unusedVariables false
namespace Go.Proofs.YtjbjjfndkpcciaaGreatDoor
open Go.RowKit Go.Shelf Go.Sort

/-- Eight pointers are stored in a log. -/
def putS (W : World) (b q0 q1 q2 q3 q4 q5 q6 q7 : Nat) : World :=
  (((((((W.setCell ⟨b, 1, none⟩ (.pointer (some ⟨q0, 0, none⟩))).setCell ⟨b, 2, none⟩ (.pointer (some ⟨q1, 0, none⟩))).setCell ⟨b, 3, none⟩ (.pointer (some ⟨q2, 0, none⟩))).setCell ⟨b, 4, none⟩ (.pointer (some ⟨q3, 0, none⟩))).setCell ⟨b, 5, none⟩ (.pointer (some ⟨q4, 0, none⟩))).setCell ⟨b, 6, none⟩ (.pointer (some ⟨q5, 0, none⟩))).setCell ⟨b, 7, none⟩ (.pointer (some ⟨q6, 0, none⟩))).setCell ⟨b, 8, none⟩ (.pointer (some ⟨q7, 0, none⟩))
theorem putS_touch {W : World} {b : Nat} (q0 q1 q2 q3 q4 q5 q6 q7 : Nat) : Touch (fun x => x = b) W (putS W b q0 q1 q2 q3 q4 q5 q6 q7) :=
  have h : ∀ i, (fun x => x = b) (⟨b, i, none⟩ : Addr).block := fun _ => rfl
  ((((((((Touch.refl (fun x => x = b) W).set ⟨b, 1, none⟩ _ (h 1)).set ⟨b, 2, none⟩ _ (h 2)).set ⟨b, 3, none⟩ _ (h 3)).set ⟨b, 4, none⟩ _ (h 4)).set ⟨b, 5, none⟩ _ (h 5)).set ⟨b, 6, none⟩ _ (h 6)).set ⟨b, 7, none⟩ _ (h 7)).set ⟨b, 8, none⟩ _ (h 8)

theorem IsLog.new_segs {w w' : World} {B : Nat} {m : LogM} {L : LogD} (h : IsLog w B m L) {ss' : List SegM} {Ss' : List SegD} (hs : Segs w' B ss' Ss') (h8 : ss'.length = 8) (hn : ∀ x, onAll ss' x → onAll m.ss x ∨ w.heap.size ≤ x) (t : Touch (onAll m.ss) w w') {q0 q1 q2 q3 q4 q5 q6 q7 : Nat} (hq : ptrs ss' = [q0, q1, q2, q3, q4, q5, q6, q7]) :
    IsLog (putS w' m.p q0 q1 q2 q3 q4 q5 q6 q7) B { m with ss := ss' } { L with segs := Ss' } ∧ Touch m.on w (putS w' m.p q0 q1 q2 q3 q4 q5 q6 q7) ∧ (∀ x, LogM.on { m with ss := ss' } x → m.on x ∨ w.heap.size ≤ x) := by
  obtain ⟨vs, vg, hp, h1, h2⟩ := h.val
  have hlt := h.lt
  have hF := h.segs.firm
  have hp' : w'.heap[m.p]? = some (.cells (logCells m.dp (ptrs m.ss) vs vg L) 87 (0, 0)) := (t.block _ hlt h.offp.2).trans hp
  have T := putS_touch (W := w') (b := m.p) q0 q1 q2 q3 q4 q5 q6 q7
  have hF' : Firm w' fun x => x = m.p := firm_one hp' ⟨by decide, by decide, by decide⟩
  have hne : ∀ x, onAll ss' x → x ≠ m.p := fun x hx e => by
    rcases hn x hx with h3 | h3
    · exact h.offp.2 (e ▸ h3)
    · omega
  have hnew : (putS w' m.p q0 q1 q2 q3 q4 q5 q6 q7).heap[m.p]? = some (.cells (logCells m.dp (ptrs ss') vs vg { L with segs := Ss' }) 87 (0, 0)) := by
    rw [hq]
    unfold putS
    have := setAt (j := 8) (setAt (j := 7) (setAt (j := 6) (setAt (j := 5) (setAt (j := 4) (setAt (j := 3) (setAt (j := 2) (setAt (j := 1) hp' (.pointer (some ⟨q0, 0, none⟩))) (.pointer (some ⟨q1, 0, none⟩))) (.pointer (some ⟨q2, 0, none⟩))) (.pointer (some ⟨q3, 0, none⟩))) (.pointer (some ⟨q4, 0, none⟩))) (.pointer (some ⟨q5, 0, none⟩))) (.pointer (some ⟨q6, 0, none⟩))) (.pointer (some ⟨q7, 0, none⟩))
    simpa [logCells, ptrV] using this
  have hon : ∀ x, LogM.on { m with ss := ss' } x → m.on x ∨ w.heap.size ≤ x := fun x hx => by
    rcases hx with h3 | h3 | h3
    · exact .inl (.inl h3)
    · exact .inl (.inr (.inl h3))
    · exact (hn x h3).imp (fun h => .inr (.inr h)) id
  refine ⟨⟨h.low, ?_, h8, hs.touch T hF' hne, fun x hx hx' => ?_, vs, vg, hnew, row_firm (row_firm h1 t hF span_firm) T hF' span_firm, row_firm (row_firm h2 t hF int_firm) T hF' int_firm⟩, (t.mono fun x _ hx => .inr (.inr hx)).trans (T.mono fun x _ hx => .inl hx), hon⟩
  · exact (h.own.touch t fun k hk hx => h.off k hk hx).touch T fun k hk e => h.offp.1 (e ▸ hk)
  · rcases hn x hx' with h3 | h3
    · exact h.off x hx h3
    · have := (h.own.on hx).2
      omega

set_option maxHeartbeats 4000000 in
set_option maxRecDepth 100000 in
theorem logCut_calls (B : Nat) (m : LogM) (L : LogD) (pos : Int) (w : World) (hd : IsLog w B m L) (hB : B ≤ w.heap.size) (hok : ∀ S ∈ L.segs, S.ok) (hp : PowF B w) (he : ∀ S ∈ L.segs, segCutE S pos = 0) :
    Calls Tryz.prog 72 #[.pointer (some ⟨m.p, 0, none⟩), .int .i64 pos] w fun e w' => e = .returned (.int .i64 0) ∧ LogGoes B m { L with segs := if reachS L.segs pos = true then L.segs.map (fun S => segCutS S pos) else L.segs } w w' := by
  obtain ⟨p0, p1, p2, p3, p4, p5, p6, p7, hps, c1, c2, c3, c4, c5, c6, c7, c8⟩ := hd.cells8
  have C1 := hide (reach_calls B pos m.ss L.segs w hd.segs hok p0 p1 p2 p3 p4 p5 p6 p7 hps)
  have Hd := hide hd
  have Hps := hide hps
  have hlt := hd.lt
  cases hr : reachS L.segs pos with
  | false =>
    rw [hr] at C1
    rw [if_neg (by decide)]
    clear hd hok he hps hp hr
    go_enter Tryz.func72, Tryz.ntmps72
    go_wp2_with fail
    refine C1.out.mono ?_
    rintro e w1 ⟨rfl, b1⟩
    have HG := hide (logGoes_same Hd.out b1)
    clear b1 C1
    go_wp2_with fail
    go_ret
    exact ⟨rfl, HG.out⟩
  | true =>
    rw [hr] at C1
    rw [if_pos rfl]
    have C2 := hide (fun W (h : Go.RowKit.Below w.heap.size w W) => segsCut_calls B pos m.ss L.segs W (hd.segs.keep h) (Nat.le_trans hB h.size) hok he (hp.below (h.mono hB)) p0 p1 p2 p3 p4 p5 p6 p7 hps)
    have hK := fun W (h : Go.RowKit.Below w.heap.size w W) k v (hc : w.cell? ⟨m.p, k, none⟩ = some v) => (h.cell (p := ⟨m.p, k, none⟩) hlt).trans hc
    clear hd hok he hps hp hr
    go_enter Tryz.func72, Tryz.ntmps72
    go_wp2_with fail
    refine C1.out.mono ?_
    rintro e w1 ⟨rfl, b1⟩
    replace c1 := hK w1 b1 1 _ c1
    replace c2 := hK w1 b1 2 _ c2
    replace c3 := hK w1 b1 3 _ c3
    replace c4 := hK w1 b1 4 _ c4
    replace c5 := hK w1 b1 5 _ c5
    replace c6 := hK w1 b1 6 _ c6
    replace c7 := hK w1 b1 7 _ c7
    replace c8 := hK w1 b1 8 _ c8
    have D := hide (C2.out w1 b1)
    have HI1 := hide (Hd.out.keep b1)
    have Hb1 := hide b1
    clear b1 C1 C2 hK
    go_wp2_with fail
    refine D.out.mono ?_
    rintro e w2 ⟨ss', rfl, hs2, h82, hn2, t2⟩
    obtain ⟨q0, q1, q2, q3, q4, q5, q6, q7, hq8⟩ := eight_of (l := ptrs ss') (by simp [ptrs, h82])
    have ef8 : (fillV (adrs (ptrs ss'))).toArray = #[.pointer (some ⟨q0, 0, none⟩), .pointer (some ⟨q1, 0, none⟩), .pointer (some ⟨q2, 0, none⟩), .pointer (some ⟨q3, 0, none⟩), .pointer (some ⟨q4, 0, none⟩), .pointer (some ⟨q5, 0, none⟩), .pointer (some ⟨q6, 0, none⟩), .pointer (some ⟨q7, 0, none⟩)] := by rw [hq8]; rfl
    rw [ef8]
    clear ef8
    have bA := box_below w2 (.cells #[.pointer (some ⟨q0, 0, none⟩), .pointer (some ⟨q1, 0, none⟩), .pointer (some ⟨q2, 0, none⟩), .pointer (some ⟨q3, 0, none⟩), .pointer (some ⟨q4, 0, none⟩), .pointer (some ⟨q5, 0, none⟩), .pointer (some ⟨q6, 0, none⟩), .pointer (some ⟨q7, 0, none⟩)] 83)
    obtain ⟨J2, T2, N2⟩ := HI1.out.new_segs (hs2.keep bA) h82 (fun x hx => .inr (hn2 x hx)) (t2.new bA) hq8
    have hlt1 := HI1.out.lt
    have hx : (w2.alloc (.cells #[.pointer (some ⟨q0, 0, none⟩), .pointer (some ⟨q1, 0, none⟩), .pointer (some ⟨q2, 0, none⟩), .pointer (some ⟨q3, 0, none⟩), .pointer (some ⟨q4, 0, none⟩), .pointer (some ⟨q5, 0, none⟩), .pointer (some ⟨q6, 0, none⟩), .pointer (some ⟨q7, 0, none⟩)] 83)).heap[m.p]? = w1.heap[m.p]? := (bA.block _ (Nat.lt_of_lt_of_le hlt1 t2.size)).trans (t2.block _ hlt1 HI1.out.offp.2)
    obtain ⟨_, _, hp2, -⟩ := HI1.out.val
    have hx2 := hx.trans hp2
    have f1 := frozenAt hx2 1
    replace c1 := (World.cell?_of_block (w' := (w2.alloc (.cells #[.pointer (some ⟨q0, 0, none⟩), .pointer (some ⟨q1, 0, none⟩), .pointer (some ⟨q2, 0, none⟩), .pointer (some ⟨q3, 0, none⟩), .pointer (some ⟨q4, 0, none⟩), .pointer (some ⟨q5, 0, none⟩), .pointer (some ⟨q6, 0, none⟩), .pointer (some ⟨q7, 0, none⟩)] 83))) (w := w1) (a := ⟨m.p, 1, none⟩) hx).trans c1
    have f2 := frozenAt hx2 2
    replace c2 := (World.cell?_of_block (w' := (w2.alloc (.cells #[.pointer (some ⟨q0, 0, none⟩), .pointer (some ⟨q1, 0, none⟩), .pointer (some ⟨q2, 0, none⟩), .pointer (some ⟨q3, 0, none⟩), .pointer (some ⟨q4, 0, none⟩), .pointer (some ⟨q5, 0, none⟩), .pointer (some ⟨q6, 0, none⟩), .pointer (some ⟨q7, 0, none⟩)] 83))) (w := w1) (a := ⟨m.p, 2, none⟩) hx).trans c2
    have f3 := frozenAt hx2 3
    replace c3 := (World.cell?_of_block (w' := (w2.alloc (.cells #[.pointer (some ⟨q0, 0, none⟩), .pointer (some ⟨q1, 0, none⟩), .pointer (some ⟨q2, 0, none⟩), .pointer (some ⟨q3, 0, none⟩), .pointer (some ⟨q4, 0, none⟩), .pointer (some ⟨q5, 0, none⟩), .pointer (some ⟨q6, 0, none⟩), .pointer (some ⟨q7, 0, none⟩)] 83))) (w := w1) (a := ⟨m.p, 3, none⟩) hx).trans c3
    have f4 := frozenAt hx2 4
    replace c4 := (World.cell?_of_block (w' := (w2.alloc (.cells #[.pointer (some ⟨q0, 0, none⟩), .pointer (some ⟨q1, 0, none⟩), .pointer (some ⟨q2, 0, none⟩), .pointer (some ⟨q3, 0, none⟩), .pointer (some ⟨q4, 0, none⟩), .pointer (some ⟨q5, 0, none⟩), .pointer (some ⟨q6, 0, none⟩), .pointer (some ⟨q7, 0, none⟩)] 83))) (w := w1) (a := ⟨m.p, 4, none⟩) hx).trans c4
    have f5 := frozenAt hx2 5
    replace c5 := (World.cell?_of_block (w' := (w2.alloc (.cells #[.pointer (some ⟨q0, 0, none⟩), .pointer (some ⟨q1, 0, none⟩), .pointer (some ⟨q2, 0, none⟩), .pointer (some ⟨q3, 0, none⟩), .pointer (some ⟨q4, 0, none⟩), .pointer (some ⟨q5, 0, none⟩), .pointer (some ⟨q6, 0, none⟩), .pointer (some ⟨q7, 0, none⟩)] 83))) (w := w1) (a := ⟨m.p, 5, none⟩) hx).trans c5
    have f6 := frozenAt hx2 6
    replace c6 := (World.cell?_of_block (w' := (w2.alloc (.cells #[.pointer (some ⟨q0, 0, none⟩), .pointer (some ⟨q1, 0, none⟩), .pointer (some ⟨q2, 0, none⟩), .pointer (some ⟨q3, 0, none⟩), .pointer (some ⟨q4, 0, none⟩), .pointer (some ⟨q5, 0, none⟩), .pointer (some ⟨q6, 0, none⟩), .pointer (some ⟨q7, 0, none⟩)] 83))) (w := w1) (a := ⟨m.p, 6, none⟩) hx).trans c6
    have f7 := frozenAt hx2 7
    replace c7 := (World.cell?_of_block (w' := (w2.alloc (.cells #[.pointer (some ⟨q0, 0, none⟩), .pointer (some ⟨q1, 0, none⟩), .pointer (some ⟨q2, 0, none⟩), .pointer (some ⟨q3, 0, none⟩), .pointer (some ⟨q4, 0, none⟩), .pointer (some ⟨q5, 0, none⟩), .pointer (some ⟨q6, 0, none⟩), .pointer (some ⟨q7, 0, none⟩)] 83))) (w := w1) (a := ⟨m.p, 7, none⟩) hx).trans c7
    have f8 := frozenAt hx2 8
    replace c8 := (World.cell?_of_block (w' := (w2.alloc (.cells #[.pointer (some ⟨q0, 0, none⟩), .pointer (some ⟨q1, 0, none⟩), .pointer (some ⟨q2, 0, none⟩), .pointer (some ⟨q3, 0, none⟩), .pointer (some ⟨q4, 0, none⟩), .pointer (some ⟨q5, 0, none⟩), .pointer (some ⟨q6, 0, none⟩), .pointer (some ⟨q7, 0, none⟩)] 83))) (w := w1) (a := ⟨m.p, 8, none⟩) hx).trans c8
    have HJ2 := hide J2
    have HT2 := hide (T2.of_touch Hb1.out)
    have HN2 := hide N2
    have hs1 := Hb1.out.size
    clear J2 T2 N2 hs2 hn2 t2 hq8 hp2 hx2 D bA hx
    go_wp2_with fail
    go_ret
    exact ⟨rfl, ⟨m.p, m.dp, m.dg, ss'⟩, rfl, HJ2.out, HT2.out, fun x hx => (HN2.out x hx).imp (fun h => h) fun h => Nat.le_trans hs1 h⟩

end Go.Proofs.YtjbjjfndkpcciaaGreatDoor

/- A log's Recover. Own work; no statement. -/
set_option linter.unusedSimpArgs false
set_option linter.unusedVariables false
namespace Go.Proofs.YtjbjjfndkpcciaaGreatDoor
open Go.RowKit Go.Shelf Go.Sort

set_option maxHeartbeats 1000000 in
theorem logRecover_state (B : Nat) (m : LogM) (L : LogD) (w : World) (hd : IsLog w B m L) (hu : L.down = false) :
    Calls Tryz.prog 21 #[.pointer (some ⟨m.p, 0, none⟩)] w fun e w' => e = .returned (.int .i64 12) ∧ w' = w := by
  obtain ⟨_, _, -, -, -, -, c10, -, -, -, -, -, -⟩ := hd.cells
  rw [hu] at c10
  clear hd
  go_enter Tryz.func21, Tryz.ntmps21
  go_wp2_with fail
  go_ret
  exact ⟨rfl, rfl⟩

/-- The segments, opened anew. -/
def LogD.again (L : LogD) : LogD := { L with segs := L.segs.map fun S => openS S.D }
/-- What it knows then, ahead of its head's way. -/
def LogD.knows (L : LogD) : LogD := { L.again.readS L.ops.length with head := (L.again.readS L.ops.length).trim }
/-- A log that is up again, its head at h'. -/
def LogD.recS (L : LogD) (h' : Int) : LogD := { L.knows with segs := if reachS L.knows.segs h' = true then L.knows.segs.map (fun S => segCutS S h') else L.knows.segs, head := h', next := h', down := false }

set_option maxHeartbeats 4000000 in
set_option maxRecDepth 100000 in
theorem logRecover_calls (B : Nat) (m : LogM) (L : LogD) (h' : Int) (w : World) (hd : IsLog w B m L) (hB : B ≤ w.heap.size) (hf : L.fm) (hdn : L.down = true) (ht : L.trim = 0) (hg : L.gone = []) (hp : PowF B w)
    (hok : ∀ S ∈ L.knows.segs, S.ok) (ha : L.knows.Adv L.knows.head h') (h0 : 0 ≤ L.knows.head) (hh : h' ≤ 2147483648) (he : ∀ S ∈ L.knows.segs, segCutE S h' = 0) :
    Calls Tryz.prog 21 #[.pointer (some ⟨m.p, 0, none⟩)] w fun e w' => e = .returned (.int .i64 0) ∧ LogGoes B m (L.recS h') w w' := by
  obtain ⟨p0, p1, p2, p3, p4, p5, p6, p7, hps, c1, c2, c3, c4, c5, c6, c7, c8⟩ := hd.cells8
  obtain ⟨_, _, -, -, -, -, c10, -, -, -, -, fz, -⟩ := hd.cells
  rw [hdn] at c10
  have C1 := hide (opened_calls B m.ss L.segs w hd.segs hB p0 p1 p2 p3 p4 p5 p6 p7 hps)
  have hfew := (hd.few hf).2
  have hrun := hf.run
  have hkm : L.knows.map = L.map := by
    show (runO L.st0 (L.ops.take L.ops.length)).1 = L.map
    rw [List.take_length]
    exact hrun
  have hfit : L.knows.Fit := ⟨by unfold LogD.knows LogD.readS LogD.again; simp [hf.eight], by rw [hkm]; exact hf.ok, by rw [hkm]; exact hfew⟩
  have Hfit := hide hfit
  have Hd := hide hd
  have Hps := hide hps
  have Hok := hide hok
  have Ha := hide ha
  have He := hide he
  have Hp := hide hp
  have Hf := hide hf
  have Ht := hide ht
  have Hg := hide hg
  have hlt := hd.lt
  have f1 := fz 1
  have f2 := fz 2
  have f3 := fz 3
  have f4 := fz 4
  have f5 := fz 5
  have f6 := fz 6
  have f7 := fz 7
  have f8 := fz 8
  clear hd hf hok ha he hps hp hdn fz ht hg hrun hkm hfit hfew
  go_enter Tryz.func21, Tryz.ntmps21
  go_wp2_with fail
  refine C1.out.mono ?_
  rintro e w2 ⟨ss', rfl, hs2, h82, hn2, t2⟩
  obtain ⟨q0, q1, q2, q3, q4, q5, q6, q7, hq8⟩ := eight_of (l := ptrs ss') (by simp [ptrs, h82])
  have ef8 : (fillV (adrs (ptrs ss'))).toArray = #[.pointer (some ⟨q0, 0, none⟩), .pointer (some ⟨q1, 0, none⟩), .pointer (some ⟨q2, 0, none⟩), .pointer (some ⟨q3, 0, none⟩), .pointer (some ⟨q4, 0, none⟩), .pointer (some ⟨q5, 0, none⟩), .pointer (some ⟨q6, 0, none⟩), .pointer (some ⟨q7, 0, none⟩)] := by rw [hq8]; rfl
  rw [ef8]
  clear ef8
  obtain ⟨J2, T2, N2⟩ := Hd.out.new_segs hs2 h82 hn2 t2 hq8
  have hx := t2.block _ Hd.out.lt Hd.out.offp.2
  obtain ⟨_, _, hp2, -⟩ := Hd.out.val
  have hx2 := hx.trans hp2
  replace f1 := frozenAt hx2 1
  have d1 := (World.cell?_of_block (w' := w2) (w := w) (a := ⟨m.p, 1, none⟩) hx).trans c1
  replace f2 := frozenAt hx2 2
  have d2 := (World.cell?_of_block (w' := w2) (w := w) (a := ⟨m.p, 2, none⟩) hx).trans c2
  replace f3 := frozenAt hx2 3
  have d3 := (World.cell?_of_block (w' := w2) (w := w) (a := ⟨m.p, 3, none⟩) hx).trans c3
  replace f4 := frozenAt hx2 4
  have d4 := (World.cell?_of_block (w' := w2) (w := w) (a := ⟨m.p, 4, none⟩) hx).trans c4
  replace f5 := frozenAt hx2 5
  have d5 := (World.cell?_of_block (w' := w2) (w := w) (a := ⟨m.p, 5, none⟩) hx).trans c5
  replace f6 := frozenAt hx2 6
  have d6 := (World.cell?_of_block (w' := w2) (w := w) (a := ⟨m.p, 6, none⟩) hx).trans c6
  replace f7 := frozenAt hx2 7
  have d7 := (World.cell?_of_block (w' := w2) (w := w) (a := ⟨m.p, 7, none⟩) hx).trans c7
  replace f8 := frozenAt hx2 8
  have d8 := (World.cell?_of_block (w' := w2) (w := w) (a := ⟨m.p, 8, none⟩) hx).trans c8
  have C2 := hide (read_calls B _ _ _ J2 Hf.out.ok Hf.out.ops Ht.out Hg.out)
  simp only [putS] at C2
  have HJ2 := hide J2
  have HT2 := hide T2
  have HN2 := hide N2
  clear J2 T2 N2 hs2 hn2 t2 hq8 hp2 hx2 C1 hx c1 c2 c3 c4 c5 c6 c7 c8
  go_wp2_with fail
  refine C2.out.mono ?_
  rintro e w3 ⟨rfl, I3, T3⟩
  have hk3 : ({ (L.again.readS L.ops.length) with head := (L.again.readS L.ops.length).trim } : LogD) = L.knows := rfl
  obtain ⟨_, _, -, -, -, -, -, e11, -, e13, -, fz3, -⟩ := I3.cells
  have f13 := fz3 13
  dsimp only at e11 e13 f13
  obtain ⟨I4, T4⟩ := I3.set_head (L.again.readS L.ops.length).trim
  dsimp only at I4 T4
  have I4' : IsLog _ B ⟨m.p, m.dp, m.dg, ss'⟩ L.knows := I4
  have C5 := hide (advance_calls B _ L.knows h' _ I4' Hfit.out Hok.out h0 Ha.out hh)
  have HI4 := hide I4'
  have HT4 := hide (T3.trans T4)
  obtain ⟨tr, htr⟩ : ∃ tr, (L.again.readS L.ops.length).trim = tr := ⟨_, rfl⟩
  have e11' : w3.cell? ⟨m.p, 11, none⟩ = some (.int .i64 tr) := by rw [← htr]; exact e11
  rw [htr] at C5 HT4
  clear I3 T3 I4 T4 fz3 C2 I4' e11
  go_wp2_with fail
  refine C5.out.mono ?_
  rintro e w5 ⟨rfl, I5, T5⟩
  have T05 : Touch m.on w w5 := (HT2.out.next HT4.out fun i hi h => by
    rcases HN2.out i h with h5 | h5
    · exact h5
    · omega).next T5 fun i hi h => by
    rcases HN2.out i h with h5 | h5
    · exact h5
    · omega
  have B05 := Hd.out.below hB T05
  obtain ⟨_, _, -, -, -, -, -, -, -, e13, -, -, -⟩ := I5.cells
  dsimp only at e13
  have C6 := hide (logCut_calls B _ { L.knows with head := h' } h' w5 I5 (Nat.le_trans hB T05.size) Hok.out (Hp.out.below B05) He.out)
  dsimp only at C6
  have HT5 := hide T05
  clear I5 T5 T05 B05 C5 f13 e11' d1 d2 d3 d4 d5 d6 d7 d8 f1 f2 f3 f4 f5 f6 f7 f8
  go_wp2_with fail
  refine C6.out.mono ?_
  rintro e w6 ⟨rfl, m6, hp6, I6, T6, N6⟩
  obtain ⟨_, _, -, -, -, -, k10, -, -, k13, k14, fz6, -⟩ := I6.cells
  dsimp only at hp6 k10 k13 k14
  rw [hp6] at k10 k13 k14 fz6
  have f10 := fz6 10
  have f14 := fz6 14
  obtain ⟨I7, T7⟩ := I6.set_next h'
  obtain ⟨I8, T8⟩ := I7.set_down false
  rw [hp6] at I7 I8 T7 T8
  have HI8 := hide I8
  have HT8 := hide (T7.trans T8)
  have HT6 := hide T6
  have HN6 := hide N6
  clear I6 T6 N6 fz6 I7 T7 I8 T8 C6 e13
  go_wp2_with fail
  go_ret
  have n6 : ∀ x, m6.on x → m.on x ∨ w.heap.size ≤ x := fun x hx => by
    rcases HN6.out x hx with h | h
    · exact HN2.out x h
    · exact .inr (Nat.le_trans HT5.out.size h)
  refine ⟨rfl, m6, hp6, HI8.out, (HT5.out.next HT6.out fun i hi h => ?_).next HT8.out fun i hi h => ?_, n6⟩
  · rcases HN2.out i h with h5 | h5
    · exact h5
    · omega
  · rcases n6 i h with h5 | h5
    · exact h5
    · omega

end Go.Proofs.YtjbjjfndkpcciaaGreatDoor

/- Segments that fall: a front of their lines makes a front of their slots. Pure laws. Own work; no statement. -/
set_option linter.unusedSimpArgs false
set_option linter.unusedVariables false
namespace Go.Proofs.YtjbjjfndkpcciaaGreatDoor

/-- What a segment was when it had so many lines. -/
def cutAt (S : SegD) (m : Nat) : SegD := { S with slots := S.slots.filter fun x => decide (x.line < m) }

/-- Each front of the lines, with those that last, tells just what of the slots came so far. -/
structure Front (S : SegD) : Prop where
  lasts : S.D.lasts ≤ S.D.lines.length
  lines : ∀ x ∈ S.slots, x.line < S.D.lines.length
  run : ∀ m, S.D.lasts ≤ m → m ≤ S.D.lines.length → runE (emptyS S.D) (S.D.lines.take m) 0 = (cutAt S m, m)

theorem cutAt_all {S : SegD} (h : ∀ x ∈ S.slots, x.line < S.D.lines.length) {m : Nat} (hm : S.D.lines.length ≤ m) : cutAt S m = S := by
  unfold cutAt
  rw [List.filter_eq_self.2 fun x hx => decide_eq_true (Nat.lt_of_lt_of_le (h x hx) hm)]
theorem Front.replay {S : SegD} (h : Front S) : Replay S := by
  have := h.run S.D.lines.length h.lasts (Nat.le_refl _)
  rwa [List.take_of_length_le (Nat.le_refl _), cutAt_all h.lines (Nat.le_refl _)] at this
/-- All lasts: that it replays is enough. -/
theorem front_all {S : SegD} (h : Replay S) (hl : S.D.lasts = S.D.lines.length) (hx : ∀ x ∈ S.slots, x.line < S.D.lines.length) : Front S :=
  ⟨Nat.le_of_eq hl, hx, fun m h1 h2 => by
    obtain rfl : m = S.D.lines.length := by omega
    rw [List.take_of_length_le (Nat.le_refl _), cutAt_all hx (Nat.le_refl _)]
    exact h⟩
theorem front_new (room : Int) : Front (emptyS ⟨room, [], 0⟩) := front_all (replay_new _ rfl) rfl fun x hx => by cases hx

/-- Put: what it asks and makes. -/
theorem segPut_ok {S : SegD} {k pos : Int} {r : RecD} (h : segPutE S k pos r = 0) :
    0 ≤ pos ∧ pos ≤ 2147483647 ∧ S.sealed < k ∧ S.trim ≤ pos ∧ isAt (poss S) pos = false ∧ checkR r 8 = 0 ∧ addE S ⟨112, pos, r⟩ = 0 ∧ segPutS S k pos r = addS S ⟨112, pos, r⟩ := by
  unfold segPutE at h
  repeat' split at h
  all_goals first | (exact absurd h (by decide)) | skip
  · rename_i h1 h2 h3 h4 h5
    refine ⟨by omega, by omega, by omega, by omega, by simpa using h4, h5, h, ?_⟩
    unfold segPutS
    rw [if_neg h1, if_neg h2, if_neg h3, if_neg h4, if_pos h5]
  · rename_i h1 h2 h3 h4 h5
    exact absurd h h5
theorem segPut_is {S : SegD} {k pos : Int} {r : RecD} (h : segPutE S k pos r = 0) :
    segPutS S k pos r = { S with slots := insL S.slots (belowN (poss S) pos) ⟨pos, S.D.lines.length, r⟩, D := ⟨S.D.room, S.D.lines ++ [textE ⟨112, pos, r⟩], S.D.lasts⟩ } := by
  obtain ⟨-, -, -, -, -, -, ha, hs⟩ := segPut_ok h
  rw [hs, addS_ok ha]
  rfl

theorem filter_ins {S : SegD} {i : Nat} {x : SlotD} {m : Nat} (hm : m ≤ x.line) : (insL S.slots i x).filter (fun y => decide (y.line < m)) = S.slots.filter fun y => decide (y.line < m) := by
  unfold insL
  rw [List.filter_append, List.filter_cons, if_neg (by simp; omega), ← List.filter_append, List.take_append_drop]

theorem front_put {S : SegD} {k pos : Int} {r : RecD} (hF : Front S) (h : segPutE S k pos r = 0) (hb : backR r = r) : Front (segPutS S k pos r) := by
  obtain ⟨p0, p1, -, pt, pa, pc, ha, hs⟩ := segPut_ok h
  have hw : EntW ⟨112, pos, r⟩ := put_w p0 p1 pc
  have hm : mayS S ⟨112, pos, r⟩ = true := by
    unfold mayS
    dsimp only
    rw [if_pos rfl, pa, decide_eq_true pt]
    rfl
  have hp : parseE (textE ⟨112, pos, r⟩).data.toList = some ⟨112, pos, r⟩ := by rw [parse_textE hw]; dsimp only; rw [hb]
  have hlast := hF.lasts
  have hrep := hF.replay.add hm hp ha
  rw [← hs] at hrep
  have his := segPut_is h
  have hmem : ∀ x ∈ (segPutS S k pos r).slots, x.line < S.D.lines.length + 1 := fun x hx => by
    rw [his] at hx
    dsimp only at hx
    rcases (ins_mem _ _ _ _).1 hx with h | rfl
    · have := hF.lines x h; omega
    · exact Nat.lt_succ_self _
  have hlen : (segPutS S k pos r).D.lines.length = S.D.lines.length + 1 := by rw [his]; simp
  refine ⟨by rw [his]; simp; omega, fun x hx => by rw [hlen]; exact hmem x hx, fun m h1 h2 => ?_⟩
  rw [hlen] at h2
  rcases Nat.lt_or_ge S.D.lines.length m with h3 | h3
  · obtain rfl : m = S.D.lines.length + 1 := by omega
    rw [List.take_of_length_le (by omega), cutAt_all (fun x hx => by rw [hlen]; exact hmem x hx) (by omega), ← hlen]
    exact hrep
  · have h4 := hF.run m (by rw [his] at h1; exact h1) h3
    have e1 : (segPutS S k pos r).D.lines.take m = S.D.lines.take m := by rw [his]; dsimp only; rw [List.take_append_of_le_length h3]
    have e2 : cutAt (segPutS S k pos r) m = { cutAt S m with D := (segPutS S k pos r).D } := by
      rw [his]
      unfold cutAt
      dsimp only
      rw [filter_ins (x := ⟨pos, S.D.lines.length, r⟩) h3]
    have h5 := runE_D (segPutS S k pos r).D (S.D.lines.take m) (emptyS S.D) 0
    rw [h4] at h5
    rw [e1, e2]
    exact h5

/-- Synced it is a front too. -/
def syncS (S : SegD) : SegD := { S with D := ⟨S.D.room, S.D.lines, S.D.lines.length⟩ }
theorem front_sync {S : SegD} (hF : Front S) : Front (syncS S) := front_all (hF.replay.lasts _ rfl) rfl hF.lines

/-- An entry that lasts. -/
theorem front_last {S : SegD} {e : EntD} (hF : Front S) (he : EntW e) (hb : backR e.r = e.r) (hm : mayS S e = true) : Front (lastS S e) := by
  by_cases h0 : addE S e = 0
  · have hrep := hF.replay.last hm (by rw [parse_textE he, hb])
    have hl := lastS_ok h0
    have hlen : (lastS S e).D.lines.length = S.D.lines.length + 1 := by rw [hl]; simp
    refine front_all hrep (by rw [hl]; simp) fun x hx => ?_
    rw [hlen]
    rw [hl] at hx
    have hx' : x ∈ (applyS S e S.D.lines.length).slots := hx
    unfold applyS at hx'
    repeat' split at hx'
    · rcases (ins_mem _ _ _ _).1 hx' with h | rfl
      · have := hF.lines x h; omega
      · exact Nat.lt_succ_self _
    · have := hF.lines x hx'; omega
    · have := hF.lines x (List.mem_of_mem_take hx'); omega
    · have := hF.lines x (List.mem_of_mem_drop hx'); omega
    · have := hF.lines x hx'; omega
  · rw [show lastS S e = S by unfold lastS; rw [if_neg h0]]
    exact hF
theorem front_seal {S : SegD} (hF : Front S) (k : Int) : Front (segSealS S k) := by
  unfold segSealS
  split
  · exact hF
  · split
    · exact hF
    · rename_i h1 h2
      exact front_last hF (entN_w (.inl rfl) (by omega) (by omega)) rfl (by unfold mayS entN; simp; omega)
theorem front_cut {S : SegD} (hF : Front S) (p : Int) : Front (segCutS S p) := by
  unfold segCutS
  split
  · exact hF
  · exact front_last hF (entN_w (.inr (.inl rfl)) (by omega) (by omega)) rfl rfl
theorem front_trim {S : SegD} (hF : Front S) (h0 : 0 ≤ S.trim) (p : Int) : Front (segTrimS S p) := by
  unfold segTrimS
  split
  · rename_i h
    exact front_last hF (entN_w (.inr (.inr rfl)) (by omega) (by omega)) rfl (by unfold mayS entN; simp; omega)
  · exact hF

/-- Fallen, and opened again. -/
theorem wholeN_in {D : DiskD} (h : D.lasts ≤ D.lines.length) (keep : Int) : D.lasts ≤ wholeN D keep ∧ wholeN D keep ≤ D.lines.length := by
  unfold wholeN
  have := keepN_le (D.lines.drop D.lasts) keep
  rw [List.length_drop] at this
  omega
theorem open_crash {S : SegD} (hF : Front S) (keep : Int) : openS (crashD S.D keep) = { cutAt S (wholeN S.D keep) with D := crashD S.D keep } ∧ Front (openS (crashD S.D keep)) := by
  obtain ⟨h1, h2⟩ := wholeN_in hF.lasts keep
  have h4 := hF.run (wholeN S.D keep) h1 h2
  have h5 := runE_D (crashD S.D keep) (S.D.lines.take (wholeN S.D keep)) (emptyS S.D) 0
  rw [h4] at h5
  have hlen : (crashD S.D keep).lines.length = wholeN S.D keep := by unfold crashD; simp; omega
  have h6 : runE (emptyS (crashD S.D keep)) (crashD S.D keep).lines 0 = ({ cutAt S (wholeN S.D keep) with D := crashD S.D keep }, wholeN S.D keep) := h5
  have e : openS (crashD S.D keep) = { cutAt S (wholeN S.D keep) with D := crashD S.D keep } := by
    unfold openS
    rw [h6]
    dsimp only
    unfold openD
    rw [if_neg (by rw [hlen]; omega)]
  refine ⟨e, ?_⟩
  rw [e]
  refine front_all ?_ (by rw [hlen]; rfl) fun x hx => ?_
  · unfold Replay
    rw [hlen]
    exact h6
  · rw [hlen]
    have : x ∈ S.slots.filter fun x => decide (x.line < wholeN S.D keep) := hx
    simpa using (List.mem_filter.1 this).2

end Go.Proofs.YtjbjjfndkpcciaaGreatDoor

/- Segments in order. Pure laws. Own work; no statement. -/
set_option linter.unusedSimpArgs false
set_option linter.unusedVariables false
namespace Go.Proofs.YtjbjjfndkpcciaaGreatDoor

/-- A segment in order: no more than N lines, short ones. -/
structure SegD.In (S : SegD) (room : Int) (N : Nat) : Prop where
  ok : S.ok
  front : Front S
  room : S.D.room = room
  short : ∀ s ∈ S.D.lines, s.size ≤ 80
  count : S.D.lines.length ≤ N

theorem bytes_short : ∀ {l : List ByteArray}, (∀ s ∈ l, s.size ≤ 80) → bytesOf l ≤ 81 * l.length
  | [], _ => by simp [bytesOf]
  | s :: r, h => by
    have h1 := bytes_short (l := r) fun x hx => h x (List.mem_cons_of_mem _ hx)
    have h2 := h s List.mem_cons_self
    unfold bytesOf at *
    simp only [List.map_cons, List.sum_cons, List.length_cons]
    omega
theorem SegD.In.bytes {S : SegD} {room : Int} {N : Nat} (h : S.In room N) : bytesOf S.D.lines ≤ 81 * S.D.lines.length := bytes_short h.short
theorem runE_slots : ∀ (l : List ByteArray) (S : SegD) (k : Nat), (runE S l k).1.slots.length ≤ S.slots.length + ((runE S l k).2 - k) ∧ k ≤ (runE S l k).2
  | [], S, k => by simp [runE]
  | s :: r, S, k => by
    unfold runE
    split
    · simp
    · rename_i e _
      split
      · have h1 := runE_slots r (applyS S e k) (k + 1)
        have h2 := applyS_len S e k
        omega
      · simp
theorem SegD.In.more {S : SegD} {room : Int} {N M : Nat} (h : S.In room N) (hM : N ≤ M) : S.In room M := ⟨h.ok, h.front, h.room, h.short, Nat.le_trans h.count hM⟩
theorem SegD.In.add {S : SegD} {room : Int} {N : Nat} (h : S.In room N) (hr : 81 * ((N : Int) + 1) ≤ room) {e : EntD} (he : EntW e) (hz : (textE e).size ≤ 80) : addE S e = 0 := by
  have h1 := h.bytes
  have h2 := h.count
  have h3 := h.room
  have h4 : 81 * S.D.lines.length ≤ 81 * N := Nat.mul_le_mul_left _ h2
  unfold addE writeE
  have h5 : hasEnd (textE e) = false := by
    unfold hasEnd
    rw [decide_eq_false_iff_not]
    exact fun hm => textE_no10 he 10 hm rfl
  rw [if_neg (by rw [h5]; decide), if_neg (by omega)]
/-- An entry of a number is short. -/
theorem entN_short {s : UInt8} {n : Int} (hs : s ≠ 112) (h0 : 0 ≤ n) (h1 : n ≤ 2147483647) : (textE (entN s n)).size ≤ 80 := by
  have l1 := Lib.itoa_length_le n (by omega) (by omega)
  have z1 : (⟨(Lib.itoa n).toArray⟩ : ByteArray).size ≤ 21 := by simpa [ByteArray.size] using l1
  unfold textE entN
  dsimp only
  rw [if_neg hs]
  simp only [ByteArray.size_append]
  have z2 : (⟨#[s]⟩ : ByteArray).size = 1 := rfl
  have z3 : (⟨#[32]⟩ : ByteArray).size = 1 := rfl
  omega
theorem in_new {room : Int} (N : Nat) : (emptyS ⟨room, [], 0⟩).In room N := ⟨emptyS_ok _, front_new room, rfl, by simp [emptyS], by simp [emptyS]⟩

/-- Put is taken. -/
theorem put_yes {S : SegD} {room : Int} {N : Nat} (h : S.In room N) (hr : 81 * ((N : Int) + 1) ≤ room) {k pos : Int} {r : RecD} (h0 : 0 ≤ pos) (h1 : pos ≤ 2147483647) (hk : S.sealed < k) (hk1 : k ≤ 2147483647) (ht : S.trim ≤ pos) (hx : ∀ x ∈ S.slots, x.pos ≠ pos) (hg : GoodR r) (hz : (textE ⟨112, pos, r⟩).size ≤ 80) : segPutE S k pos r = 0 := by
  have := h.ok.sealed0
  unfold segPutE
  unfold GoodR at hg
  rw [if_neg (by omega), if_neg (by omega), if_neg (by omega), if_neg (by rw [not_at h.ok hx]; decide), if_pos hg]
  exact h.add hr (put_w h0 h1 hg) hz
theorem in_put {S : SegD} {room : Int} {N : Nat} (h : S.In room N) (hN : N ≤ 1048575) {k pos : Int} {r : RecD} (he : segPutE S k pos r = 0) (hb : backR r = r) (hz : (textE ⟨112, pos, r⟩).size ≤ 80) : (segPutS S k pos r).In room (N + 1) := by
  obtain ⟨p0, p1, -, pt, pa, pc, ha, hs⟩ := segPut_ok he
  have hw : EntW ⟨112, pos, r⟩ := put_w p0 p1 pc
  have hF := front_put h.front he hb
  have his := segPut_is he
  have hc := h.count
  refine ⟨?_, hF, by rw [his]; exact h.room, ?_, ?_⟩
  · rw [his]
    have hf := h.ok.few
    have := put_ok (S := { S with D := ⟨S.D.room, S.D.lines ++ [textE ⟨112, pos, r⟩], S.D.lasts⟩ }) (place := S.D.lines.length) ⟨h.ok.rising, h.ok.each, h.ok.sealed0, h.ok.sealed1, h.ok.trim0, h.ok.trim1, by simp; omega⟩ pt pa p1 (by omega) pc (by simp; omega)
    exact this
  · rw [his]
    intro s hs
    rcases List.mem_append.1 hs with h1 | h1
    · exact h.short s h1
    · rw [List.mem_singleton.1 h1]
      exact hz
  · rw [his]
    simp only [List.length_append, List.length_singleton]
    omega
theorem in_sync {S : SegD} {room : Int} {N : Nat} (h : S.In room N) : (syncD S).In room N := ⟨syncD_ok h.ok, front_sync h.front, h.room, h.short, h.count⟩

/-- An entry of a number that lasts. -/
theorem last_in {S : SegD} {room : Int} {N : Nat} (h : S.In room N) (hr : 81 * ((N : Int) + 1) ≤ room) {e : EntD} (he : EntW e) (hz : (textE e).size ≤ 80) (hb : backR e.r = e.r) (hm : mayS S e = true) (hok : (applyS S e S.D.lines.length).ok) (hsl : (applyS S e S.D.lines.length).slots.length ≤ S.D.lines.length + 1) : (lastS S e).In room (N + 1) ∧ lastS S e = { applyS S e S.D.lines.length with D := ⟨S.D.room, S.D.lines ++ [textE e], S.D.lines.length + 1⟩ } := by
  have ha := h.add hr he hz
  have hl := lastS_ok ha
  have hF := front_last h.front he hb hm
  have hc := h.count
  refine ⟨⟨?_, hF, by rw [hl]; exact h.room, ?_, ?_⟩, hl⟩
  · rw [hl]
    exact ⟨hok.rising, hok.each, hok.sealed0, hok.sealed1, hok.trim0, hok.trim1, by simp; omega⟩
  · rw [hl]
    intro s hs
    rcases List.mem_append.1 hs with h1 | h1
    · exact h.short s h1
    · rw [List.mem_singleton.1 h1]
      exact hz
  · rw [hl]
    simp only [List.length_append, List.length_singleton]
    omega

theorem in_cut {S : SegD} {room : Int} {N : Nat} (h : S.In room N) (hr : 81 * ((N : Int) + 1) ≤ room) {p : Int} (h0 : 0 ≤ p) (h1 : p ≤ 2147483647) : segCutE S p = 0 ∧ (segCutS S p).In room (N + 1) ∧ (segCutS S p).sealed = S.sealed ∧ (segCutS S p).trim = S.trim ∧ (∀ x, x ∈ (segCutS S p).slots ↔ x ∈ S.slots ∧ x.pos < p) ∧ (segCutS S p).D.lasts = (segCutS S p).D.lines.length := by
  have he : EntW (entN 99 p) := entN_w (.inr (.inl rfl)) h0 h1
  have hz := entN_short (s := 99) (by decide) h0 h1
  have hm : mayS S (entN 99 p) = true := rfl
  have ha : applyS S (entN 99 p) S.D.lines.length = { S with slots := S.slots.take (belowN (poss S) p) } := rfl
  have hk := take_ok h.ok (belowN (poss S) p)
  have hf := h.ok.few
  obtain ⟨h2, h3⟩ := last_in h hr he hz rfl hm (by rw [ha]; exact hk) (by rw [ha]; simp; omega)
  have hs : segCutS S p = lastS S (entN 99 p) := by unfold segCutS; rw [if_neg (by omega)]
  rw [hs]
  refine ⟨by unfold segCutE; rw [if_neg (by omega)]; exact h.add hr he hz, h2, by rw [h3]; rfl, by rw [h3]; rfl, fun x => ?_, by rw [h3]; simp⟩
  rw [h3]
  exact cut_mem h.ok p x
theorem in_trim {S : SegD} {room : Int} {N : Nat} (h : S.In room N) (hr : 81 * ((N : Int) + 1) ≤ room) {p : Int} (h0 : S.trim ≤ p) (h1 : p ≤ 2147483647) : (segTrimS S p).In room (N + 1) ∧ (segTrimS S p).sealed = S.sealed ∧ (segTrimS S p).trim = p ∧ (∀ x, x ∈ (segTrimS S p).slots ↔ x ∈ S.slots ∧ p ≤ x.pos) ∧ ((segTrimS S p).D.lasts = (segTrimS S p).D.lines.length ∨ segTrimS S p = S) := by
  by_cases ht : S.trim < p
  · have ht0 := h.ok.trim0
    have he : EntW (entN 116 p) := entN_w (.inr (.inr rfl)) (by omega) h1
    have hz := entN_short (s := 116) (n := p) (by decide) (by omega) h1
    have hm : mayS S (entN 116 p) = true := by unfold mayS entN; simp; omega
    have ha : applyS S (entN 116 p) S.D.lines.length = { S with slots := S.slots.drop (belowN (poss S) p), trim := p } := rfl
    have hk := trim_ok h.ok ht h1
    have hf := h.ok.few
    obtain ⟨h2, h3⟩ := last_in h hr he hz rfl hm (by rw [ha]; exact hk) (by rw [ha]; simp; omega)
    have hs : segTrimS S p = lastS S (entN 116 p) := by unfold segTrimS; rw [if_pos ⟨ht, h1⟩]
    rw [hs]
    refine ⟨h2, by rw [h3]; rfl, by rw [h3]; rfl, fun x => ?_, .inl (by rw [h3]; simp)⟩
    rw [h3]
    exact trim_mem h.ok p x
  · have hs : segTrimS S p = S := by unfold segTrimS; rw [if_neg (by omega)]
    rw [hs]
    refine ⟨h.more (by omega), rfl, by omega, fun x => ⟨fun hx => ⟨hx, ?_⟩, fun hx => hx.1⟩, .inr rfl⟩
    have := (h.ok.each x hx).2.2.1
    omega
theorem in_seal {S : SegD} {room : Int} {N : Nat} (h : S.In room N) (hr : 81 * ((N : Int) + 1) ≤ room) {k : Int} (h0 : S.sealed < k) (h1 : k ≤ 2147483647) : segSealE S k = 0 ∧ (sealTo k S).In room (N + 1) ∧ (sealTo k S).sealed = k ∧ (sealTo k S).trim = S.trim ∧ (sealTo k S).slots = S.slots ∧ (sealTo k S).D.lasts = (sealTo k S).D.lines.length ∧ (sealTo k S).D.lines.length = S.D.lines.length + 1 := by
  have hs0 := h.ok.sealed0
  have he : EntW (entN 115 k) := entN_w (.inl rfl) (by omega) h1
  have hz := entN_short (s := 115) (n := k) (by decide) (by omega) h1
  have hm : mayS S (entN 115 k) = true := by unfold mayS entN; simp; omega
  have ha : applyS S (entN 115 k) S.D.lines.length = { S with sealed := k } := rfl
  have hk := seal_ok h.ok h0 h1
  have hf := h.ok.few
  obtain ⟨h2, h3⟩ := last_in h hr he hz rfl hm (by rw [ha]; exact hk) (by rw [ha]; simp; omega)
  have hs : sealTo k S = lastS S (entN 115 k) := by
    unfold sealTo segSealS
    rw [if_neg (by omega), if_neg (by omega), if_neg (by omega)]
  rw [hs]
  refine ⟨by unfold segSealE; rw [if_neg (by omega), if_neg (by omega)]; exact h.add hr he hz, h2, by rw [h3]; rfl, by rw [h3]; rfl, by rw [h3]; rfl, by rw [h3]; simp, by rw [h3]; simp⟩

/-- Fallen and opened again. -/
theorem in_open {S : SegD} {room : Int} {N : Nat} (h : S.In room N) (keep : Int) : (openS (crashD S.D keep)).In room N ∧ (openS (crashD S.D keep)).sealed = S.sealed ∧ (openS (crashD S.D keep)).trim = S.trim ∧ (∀ x, x ∈ (openS (crashD S.D keep)).slots ↔ x ∈ S.slots ∧ x.line < wholeN S.D keep) ∧ (openS (crashD S.D keep)).D.lasts = wholeN S.D keep ∧ (openS (crashD S.D keep)).D.lines.length = wholeN S.D keep := by
  obtain ⟨e, hF⟩ := open_crash h.front keep
  obtain ⟨w1, w2⟩ := wholeN_in h.front.lasts keep
  rw [e] at hF ⊢
  have hmem : ∀ x, x ∈ (cutAt S (wholeN S.D keep)).slots ↔ x ∈ S.slots ∧ x.line < wholeN S.D keep := fun x => by unfold cutAt; simp
  refine ⟨⟨⟨?_, fun x hx => ?_, h.ok.sealed0, h.ok.sealed1, h.ok.trim0, h.ok.trim1, ?_⟩, hF, h.room, ?_, ?_⟩, rfl, rfl, hmem, rfl, by simp [crashD]; omega⟩
  · exact List.Pairwise.filter _ h.ok.rising
  · exact h.ok.each x ((hmem x).1 hx).1
  · have h1 := hF.replay
    have h2 := runE_slots (crashD S.D keep).lines (emptyS (crashD S.D keep)) 0
    have h3 : runE (emptyS (crashD S.D keep)) (crashD S.D keep).lines 0 = ({ cutAt S (wholeN S.D keep) with D := crashD S.D keep }, (crashD S.D keep).lines.length) := h1
    rw [h3] at h2
    simpa [emptyS] using h2.1
  · exact fun s hs => h.short s (List.mem_of_mem_take hs)
  · have := h.count
    simp [crashD]
    omega

end Go.Proofs.YtjbjjfndkpcciaaGreatDoor

/- Logs in order. Pure laws. Own work; no statement. -/
set_option linter.unusedSimpArgs false
set_option linter.unusedVariables false
namespace Go.Proofs.YtjbjjfndkpcciaaGreatDoor

/-- What a position's record is. -/
structure LogD.Inv (L : LogD) (f : Int → RecD) (N : Nat) : Prop where
  fm : L.fm
  down : L.down = false
  segs : ∀ S ∈ L.segs, S.In L.room N ∧ S.sealed < (L.map.length : Int) ∧ S.trim = L.trim
  slots : ∀ k S, L.segs[k]? = some S → ∀ x ∈ S.slots, x.pos < L.next ∧ L.k x.pos = k ∧ x.r = f x.pos
  all : ∀ p, L.trim ≤ p → p < L.next → ∃ x ∈ (L.at p).slots, x.pos = p
  adv : L.Adv L.trim L.head
  run : runO L.st0 L.ops = (L.map, L.trim, L.gone)
  froms : ∀ y ∈ L.map, y.1 ≤ L.head

section
variable {L : LogD} {f : Int → RecD} {N : Nat}
theorem LogD.Inv.up (h : L.Inv f N) : L.up := ⟨h.down, fun S hS => (h.segs S hS).1.ok⟩
theorem LogD.Inv.seg (h : L.Inv f N) {p : Int} (h0 : 0 ≤ p) : L.at p ∈ L.segs := List.mem_of_getElem? (h.fm.at h0)
theorem LogD.Inv.trim0 (h : L.Inv f N) : 0 ≤ L.trim := h.fm.trim0

/-- A position lasts where its slot does. -/
theorem lasts_at {L : LogD} {p : Int} (hok : (L.at p).ok) : L.lasts p = true ↔ ∃ x ∈ (L.at p).slots, x.pos = p ∧ x.line < (L.at p).D.lasts := by
  unfold LogD.lasts
  by_cases h : ∃ x ∈ (L.at p).slots, x.pos = p
  · obtain ⟨x, hx, rfl⟩ := h
    rw [lastsS_mem hok hx]
    constructor
    · intro h
      exact ⟨x, hx, rfl, by simpa using h⟩
    · rintro ⟨y, hy, e, hl⟩
      have h1 := below_slot hok hx
      have h2 := below_slot hok hy
      rw [e, h1] at h2
      cases h2
      simpa using hl
  · rw [lastsS_none hok fun x hx e => h ⟨x, hx, e⟩]
    constructor
    · intro h
      cases h
    · rintro ⟨x, hx, e, -⟩
      exact absurd ⟨x, hx, e⟩ h

theorem adv_to {L : LogD} (a : Int) (n : Nat) : ∀ (b : Int), a ≤ b → b - a ≤ n → L.lasts b = false → ∃ h', L.Adv a h' ∧ h' ≤ b := by
  induction n with
  | zero => exact fun b h0 hk hb => ⟨b, ⟨by omega, fun p h1 h2 => by omega, hb⟩, Int.le_refl _⟩
  | succ n ih =>
    intro b h0 hk hb
    by_cases hx : ∀ p, a ≤ p → p < b → L.lasts p = true
    · exact ⟨b, ⟨h0, hx, hb⟩, Int.le_refl _⟩
    · have h1 : ∃ p, a ≤ p ∧ p < b ∧ L.lasts p = false := by
        refine Classical.byContradiction fun hn => hx fun p h1 h2 => ?_
        cases hl : L.lasts p with
        | true => rfl
        | false => exact absurd ⟨p, h1, h2, hl⟩ hn
      obtain ⟨p, h1, h2, h3⟩ := h1
      obtain ⟨h', h4, h5⟩ := ih p h1 (by omega) h3
      exact ⟨h', h4, by omega⟩
theorem adv_is {L : LogD} {a b : Int} (h : a ≤ b) (hb : L.lasts b = false) : ∃ h', L.Adv a h' ∧ h' ≤ b := adv_to a (b - a).toNat b h (by omega) hb
theorem adv_one {L : LogD} {a b c : Int} (h : L.Adv a b) (k : L.Adv a c) : b = c := by
  rcases Int.lt_trichotomy b c with h1 | h1 | h1
  · have := k.all b h.le h1
    rw [h.stop] at this
    cases this
  · exact h1
  · have := h.all c k.le h1
    rw [k.stop] at this
    cases this
/-- The next position does not last: nobody has it. -/
theorem LogD.Inv.stop (h : L.Inv f N) {p : Int} (hp : L.next ≤ p) : L.lasts p = false := by
  have h0 : 0 ≤ p := by have := h.fm.trim0; have := h.fm.head0; have := h.fm.next0; omega
  cases hl : L.lasts p with
  | false => rfl
  | true =>
    obtain ⟨x, hx, e, -⟩ := (lasts_at (h.segs _ (h.seg h0)).1.ok).1 hl
    have := (h.slots _ _ (h.fm.at h0) x hx).1
    omega
theorem LogD.Inv.same {g : Int → RecD} (h : L.Inv f N) (he : ∀ p, L.trim ≤ p → p < L.next → f p = g p) : L.Inv g N :=
  ⟨h.fm, h.down, h.segs, fun k S hS x hx => by
    obtain ⟨h1, h2, h3⟩ := h.slots k S hS x hx
    have h4 := (h.segs S (List.mem_of_getElem? hS))
    have := (h4.1.ok.each x hx).2.2.1
    exact ⟨h1, h2, h3.trans (he _ (by omega) h1)⟩, h.all, h.adv, h.run, h.froms⟩
theorem LogD.Inv.more {M : Nat} (h : L.Inv f N) (hM : N ≤ M) : L.Inv f M := ⟨h.fm, h.down, fun S hS => ⟨(h.segs S hS).1.more hM, (h.segs S hS).2⟩, h.slots, h.all, h.adv, h.run, h.froms⟩

/-- A record is put. -/
theorem LogD.Inv.put (h : L.Inv f N) (hg : GoodR (f L.next)) (hb : backR (f L.next) = f L.next) (hz : (textE ⟨112, L.next, f L.next⟩).size ≤ 80) (hn : L.next ≤ 2147483647) (hr : 81 * ((N : Int) + 1) ≤ L.room) (hN : N ≤ 1048575) (hm : (L.map.length : Int) ≤ 2147483647) :
    L.putE L.next (f L.next) = 0 ∧ L.putS L.next (f L.next) = { L with segs := L.segs.set (L.k L.next) (segPutS (L.at L.next) (L.map.length : Int) L.next (f L.next)), next := L.next + 1 } ∧ (L.putS L.next (f L.next)).Inv f (N + 1) := by
  have h0 : 0 ≤ L.next := by have := h.fm.trim0; have := h.fm.head0; have := h.fm.next0; omega
  have hat := h.fm.at h0
  obtain ⟨hin, hse, htr⟩ := h.segs _ (h.seg h0)
  have hx : ∀ x ∈ (L.at L.next).slots, x.pos ≠ L.next := fun x hx e => by have := (h.slots _ _ hat x hx).1; omega
  have he := put_yes hin hr (k := (L.map.length : Int)) h0 hn hse hm (by have := h.fm.head0; have := h.fm.next0; omega) hx hg hz
  have hin' := in_put hin hN he hb hz
  have his := segPut_is he
  have e0 : L.putE L.next (f L.next) = 0 := by unfold LogD.putE; rw [if_neg (by rw [h.down]; decide), if_neg (by omega)]; exact he
  have e1 : L.putS L.next (f L.next) = { L with segs := L.segs.set (L.k L.next) (segPutS (L.at L.next) (L.map.length : Int) L.next (f L.next)), next := L.next + 1 } := by unfold LogD.putS; rw [if_pos e0]
  refine ⟨e0, e1, ?_⟩
  rw [e1]
  generalize hS' : segPutS (L.at L.next) (L.map.length : Int) L.next (f L.next) = S' at *
  have hk8 := (h.fm.k8 h0).1
  have hmem : ∀ x, x ∈ S'.slots ↔ x ∈ (L.at L.next).slots ∨ x = ⟨L.next, (L.at L.next).D.lines.length, f L.next⟩ := fun x => by rw [his]; exact ins_mem _ _ _ _
  have hatk : ∀ p, 0 ≤ p → ({ L with segs := L.segs.set (L.k L.next) S', next := L.next + 1 } : LogD).at p = if L.k p = L.k L.next then S' else L.at p := fun p hp => by
    have h8 := h.fm.eight
    have := (h.fm.k8 hp).1
    show (L.segs.set (L.k L.next) S').getD (L.k p) noSeg = _
    rw [List.getD_eq_getElem?_getD, List.getElem?_set]
    by_cases e : L.k p = L.k L.next
    · rw [if_pos e.symm, if_pos e, if_pos (by omega)]
      rfl
    · rw [if_neg fun e' => e e'.symm, if_neg e, ← List.getD_eq_getElem?_getD]
      rfl
  have hseg : ∀ S ∈ L.segs.set (L.k L.next) S', S.In L.room (N + 1) ∧ S.sealed < (L.map.length : Int) ∧ S.trim = L.trim := fun S hS => by
    rcases List.mem_or_eq_of_mem_set hS with h1 | rfl
    · exact ⟨(h.segs S h1).1.more (by omega), (h.segs S h1).2⟩
    · exact ⟨hin', by rw [his]; exact hse, by rw [his]; exact htr⟩
  have hatp : ∀ p, 0 ≤ p → (if L.k p = L.k L.next then S' else L.at p).ok := fun p hp => by
    split
    · exact hin'.ok
    · exact (h.segs _ (h.seg hp)).1.ok
  refine ⟨⟨by simp [h.fm.eight], h.fm.ok, h.fm.mapS, h.fm.few, h.fm.trim0, h.fm.head0, by have := h.fm.next0; dsimp only; omega, by dsimp only; omega, h.fm.inS, h.fm.gone8, h.fm.ops, h.fm.run⟩, h.down, hseg, fun k S hS x hx => ?_, fun p h1 h2 => ?_, ⟨h.fm.head0, fun p h1 h2 => ?_, ?_⟩, h.run, h.froms⟩
  · rcases set_get hS with ⟨rfl, rfl⟩ | ⟨hk, hS⟩
    · rcases (hmem x).1 hx with hx | rfl
      · obtain ⟨q1, q2, q3⟩ := h.slots _ _ hat x hx
        exact ⟨by dsimp only; omega, q2, q3⟩
      · exact ⟨by dsimp only; omega, rfl, rfl⟩
    · obtain ⟨q1, q2, q3⟩ := h.slots _ _ hS x hx
      exact ⟨by dsimp only; omega, q2, q3⟩
  · dsimp only at h1 h2
    have hp0 : 0 ≤ p := by have := h.fm.trim0; omega
    rw [hatk p hp0]
    rcases Int.lt_or_eq_of_le (Int.le_of_lt_add_one h2) with h3 | h3
    · obtain ⟨x, hx, e⟩ := h.all p h1 h3
      split
      · rename_i ek
        refine ⟨x, (hmem x).2 (.inl ?_), e⟩
        have : L.at p = L.at L.next := by unfold LogD.at; rw [ek]
        rw [← this]
        exact hx
      · exact ⟨x, hx, e⟩
    · rw [h3, if_pos rfl]
      exact ⟨_, (hmem _).2 (.inr rfl), rfl⟩
  · dsimp only at h1 h2
    have hp0 : 0 ≤ p := by have := h.fm.trim0; omega
    have h3 := h.adv.all p h1 h2
    obtain ⟨x, hx, e, hl⟩ := (lasts_at (h.segs _ (h.seg hp0)).1.ok).1 h3
    refine (lasts_at (by rw [hatk p hp0]; exact hatp p hp0)).2 ?_
    rw [hatk p hp0]
    split
    · rename_i ek
      have hpn : L.at p = L.at L.next := by unfold LogD.at; rw [ek]
      rw [hpn] at hx hl
      exact ⟨x, (hmem x).2 (.inl hx), e, by rw [his]; exact hl⟩
    · exact ⟨x, hx, e, hl⟩
  · have hp0 : 0 ≤ L.head := by have := h.fm.trim0; have := h.fm.head0; omega
    cases hl : ({ L with segs := L.segs.set (L.k L.next) S', next := L.next + 1 } : LogD).lasts L.head with
    | false => rfl
    | true =>
      obtain ⟨x, hx, e, hl⟩ := (lasts_at (by rw [hatk _ hp0]; exact hatp _ hp0)).1 hl
      rw [hatk _ hp0] at hx hl
      have hs := h.adv.stop
      have hno : ¬ L.lasts L.head = true := by rw [hs]; decide
      exfalso
      apply hno
      refine (lasts_at (h.segs _ (h.seg hp0)).1.ok).2 ?_
      split at hx
      · rename_i ek
        have hpn : L.at L.head = L.at L.next := by unfold LogD.at; rw [ek]
        rw [if_pos ek] at hl
        rw [hpn]
        rcases (hmem x).1 hx with hx | rfl
        · exact ⟨x, hx, e, by rw [his] at hl; exact hl⟩
        · exfalso
          rw [his] at hl
          have := hin.front.lasts
          dsimp only at hl
          omega
      · rename_i ek
        rw [if_neg ek] at hl
        exact ⟨x, hx, e, hl⟩

end
end Go.Proofs.YtjbjjfndkpcciaaGreatDoor
