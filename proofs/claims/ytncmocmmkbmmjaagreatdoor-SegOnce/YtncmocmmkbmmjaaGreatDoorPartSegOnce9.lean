/- Own work: the parts S8, S9, S10, S11, S13 of the proof, laid together. -/
import Derived.Test.YtncmocmmkbmmjaaGreatDoorPartSegOnce8
import Derived.Test.YtncmocmmkbmmjaaGreatDoorPartSegOnce6
/- seg's apply. Own work; no statement. -/
set_option linter.unusedSimpArgs false
set_option linter.unusedVariables false
namespace Go.Proofs.YtncmocmmkbmmjaaGreatDoor
open Go.RowKit Go.Shelf Go.Sort

/-- An entry holds. -/
def applyS (S : SegD) (e : EntD) (place : Nat) : SegD :=
  if e.sign = 112 then { S with slots := insL S.slots (belowN (poss S) e.n) ⟨e.n, place, e.r⟩ }
  else if e.sign = 115 then { S with sealed := e.n }
  else if e.sign = 99 then { S with slots := S.slots.take (belowN (poss S) e.n) }
  else if e.sign = 116 then { S with slots := S.slots.drop (belowN (poss S) e.n), trim := e.n } else S

/-- A segment's disk lies apart from its other blocks. -/
theorem IsSeg.disk_off {w : World} {B : Nat} {m : SegM} {S : SegD} (h : IsSeg w B m S) {k : Nat} (hk : onDisk m.dp m.dg k) : k ≠ m.p ∧ m.sg ≠ some k := by
  obtain ⟨v, qs, hv, hl, hp, hr, hs⟩ := h.val
  obtain ⟨v', hv', hp', hr'⟩ := h.disk.val
  have : ∃ c t, w.heap[k]? = some (.cells c t (0, 0)) ∧ t ≠ 82 ∧ t ≠ 106 := by
    rcases hk with rfl | hk
    · exact ⟨_, _, hp', by decide, by decide⟩
    · rcases hr'.2 with ⟨rfl, _⟩ | ⟨g, cap, cur, rfl, hb, hg, _⟩
      · rw [← hv'] at hk; cases hk
      · obtain rfl : g = k := by rw [← hv'] at hk; simpa [Value.ownBlock] using hk
        exact ⟨_, _, hg, by decide, by decide⟩
  obtain ⟨c, t, hc, h1, h2⟩ := this
  refine ⟨fun e => ?_, fun e => row_not hr hc h2 (by rw [hv, e])⟩
  subst e
  rw [hp] at hc
  simp only [Option.some.injEq, Obj.cells.injEq] at hc
  exact h1 hc.2.1.symm

/-- A segment gets another row of slots. -/
theorem IsSeg.row {w w5 : World} {B : Nat} {m : SegM} {S : SegD} {v v' : Value} {qs' : List Nat} {l : List SlotD} (h : IsSeg w B m S) (hv : v.ownBlock = m.sg) (hl : qs'.length = l.length)
    (hp : w.heap[m.p]? = some (.cells #[ptrV m.dp, .int .i64 S.sealed, .int .i64 S.trim, v] 82 (0, 0))) (hs : ∀ i (h : i < qs'.length) (h' : i < l.length), SlotAt w m.c qs'[i] l[i])
    (hown : w5.ownsRow B 106 1 v' qs'.length (qs'.map ptrV)) (t : Touch (fun k => v.ownBlock = some k) w w5) (hat : ∀ k, v'.ownBlock = some k → v.ownBlock = some k ∨ w.heap.size ≤ k) (hok : SegD.ok { S with slots := l }) :
    IsSeg (w5.setCell ⟨m.p, 3, none⟩ v') B { m with sg := v'.ownBlock } { S with slots := l } ∧ Touch m.on w (w5.setCell ⟨m.p, 3, none⟩ v') ∧ (∀ k, v'.ownBlock = some k → m.sg = some k ∨ w.heap.size ≤ k) ∧
      w5.heap[m.p]? = some (.cells #[ptrV m.dp, .int .i64 S.sealed, .int .i64 S.trim, v] 82 (0, 0)) := by
  have t5 : Touch m.on w w5 := t.mono fun k _ e => .inr (.inl (hv.symm.trans e))
  have t6 : Touch m.on w (w5.setCell ⟨m.p, 3, none⟩ v') := t5.set ⟨m.p, 3, none⟩ v' (.inl rfl)
  obtain ⟨v0, qs0, hv0, hl0, hp0, hr0, hs0⟩ := h.val
  have hpv : m.sg ≠ some m.p := fun e => row_not hr0 hp0 (by decide) (by rw [hv0, e])
  have hp5 : w5.heap[m.p]? = some (.cells #[ptrV m.dp, .int .i64 S.sealed, .int .i64 S.trim, v] 82 (0, 0)) := (t.block m.p (ltAt hp) fun e => hpv (hv.symm.trans e)).trans hp
  have hne : ∀ k, v'.ownBlock = some k → k ≠ m.p := fun k hk e => row_not hown hp5 (by decide) (by rw [hk, e])
  refine ⟨⟨hok, h.low, Nat.le_trans h.cl t6.size, h.disk.keep fun k hk => ?_, v', qs', rfl, hl, by simpa using setAt (j := 3) hp5 v', ownsRow_of_heap hown fun k hk => Below.heap_setCell _ _ _ _ (hne k hk), fun i h1 h2 => (hs i h1 h2).touch h t6⟩, t6, fun k hk => (hat k hk).imp (fun e => hv.symm.trans e) id, hp5⟩
  have ho := h.disk_off hk
  exact (Below.heap_setCell w5 ⟨m.p, 3, none⟩ v' k ho.1).trans (t.block k (h.disk.on hk).2 fun e => ho.2 (hv.symm.trans e))

/-- One of a segment's numbers is set. -/
theorem IsSeg.nums {w : World} {B : Nat} {m : SegM} {S S' : SegD} {W : World} (h : IsSeg w B m S) (hok : S'.ok) (hD : S'.D = S.D) (hs : S'.slots = S.slots) (t : Touch (fun k => k = m.p) w W) (hp : ∀ v, w.heap[m.p]? = some (.cells #[ptrV m.dp, .int .i64 S.sealed, .int .i64 S.trim, v] 82 (0, 0)) → W.heap[m.p]? = some (.cells #[ptrV m.dp, .int .i64 S'.sealed, .int .i64 S'.trim, v] 82 (0, 0))) :
    IsSeg W B m S' ∧ Touch m.on w W := by
  obtain ⟨v, qs, hv, hl, hp0, hr, hsl⟩ := h.val
  have t1 : Touch m.on w W := t.mono fun k _ e => .inl e
  have hpv : m.sg ≠ some m.p := fun e => row_not hr hp0 (by decide) (by rw [hv, e])
  refine ⟨⟨hok, h.low, Nat.le_trans h.cl t1.size, ?_, v, qs, hv, by rw [hs]; exact hl, hp v hp0, ownsRow_of_heap hr fun k hk => t.block k (hr.lt k hk).2 fun e => hpv (by rw [← hv, hk, e]), fun i h1 h2 => ?_⟩, t1⟩
  · rw [hD]
    exact h.disk.keep fun k hk => t.block k (h.disk.on hk).2 (h.disk_off hk).1
  · have := (hsl i h1 (by rw [← hs]; exact h2)).touch h t1
    simpa only [hs] using this

set_option maxHeartbeats 4000000 in
set_option maxRecDepth 100000 in
theorem apply_put (B : Nat) (m : SegM) (S : SegD) (n : Int) (r : RecD) (v : Value) (place : Nat) (w : World) (hd : IsSeg w B m S) (hB : B ≤ w.heap.size) (hv : IsEnt w m.c v ⟨112, n, r⟩) (hm : mayS S ⟨112, n, r⟩ = true) (hn : n ≤ 2147483647) (hg : GoodR r) (hp : place ≤ 1048575) (hf : S.slots.length < S.D.lines.length) :
    Calls Tryz.prog 40 #[.pointer (some ⟨m.p, 0, none⟩), v, .int .i64 (place : Int)] w fun x w' => x = .returned (.tuple #[]) ∧ ∃ sg', IsSeg w' B { m with sg := sg' } (applyS S ⟨112, n, r⟩ place) ∧ Touch m.on w w' ∧ (∀ k, sg' = some k → m.sg = some k ∨ w.heap.size ≤ k) := by
  obtain ⟨vd, rfl, hr⟩ := hv
  obtain ⟨a, cap, rfl⟩ := ownsRow_slice hr
  dsimp only at *
  have HB := box_below w (.cells #[.string ⟨#[112]⟩, .int .i64 n, .int .i64 r.site, .int .i64 r.seq, .slice a r.dep.length cap, .string r.key, .string r.val] 84)
  obtain ⟨W1, hW1⟩ : ∃ W1, w.alloc (.cells #[.string ⟨#[112]⟩, .int .i64 n, .int .i64 r.site, .int .i64 r.seq, .slice a r.dep.length cap, .string r.key, .string r.val] 84) = W1 := ⟨_, rfl⟩
  have x0 : W1.heap[w.heap.size]? = some (.cells #[.string ⟨#[112]⟩, .int .i64 n, .int .i64 r.site, .int .i64 r.seq, .slice a r.dep.length cap, .string r.key, .string r.val] 84 (0, 0)) := by rw [← hW1]; exact World.alloc_heap_new w _
  rw [hW1] at HB
  have hd1 := hd.keep HB
  have u1 := hide (find_calls B m S n W1 hd1)
  obtain ⟨vs, qs, hvs, hl, hp, hr1, hsl⟩ := hd1.val
  obtain ⟨c0, c1, c2, c3, f0, f1, f2, f3⟩ := cells4 hp
  obtain ⟨k0, k1, k2, k3, k4, k5, k6, -, -, -, -, -, -, -⟩ := cells7 x0
  obtain ⟨sa, caps, rfl⟩ := ownsRow_slice hr1
  have HW := hide hW1
  have HL := hide hl
  have Hd := hide hd
  have Hd1 := hide hd1
  have Hr := hide hr
  have Hr1 := hide hr1
  have Hsl := hide hsl
  have Hvs := hide hvs
  have Hp := hide hp
  have hlen := hd.disk.len
  have hfew := hd.ok.few
  clear hd hd1 hp hr hr1 hl x0 hW1 hsl hvs
  have hmay : S.trim ≤ n ∧ isAt (poss S) n = false := by
    unfold mayS at hm
    rw [if_pos rfl, Bool.and_eq_true, decide_eq_true_eq] at hm
    exact ⟨hm.1, by simpa using hm.2⟩
  have hok := put_ok (place := place) (r := r) Hd.out.ok hmay.1 hmay.2 hn (by omega) hg hf
  have hile : belowN (poss S) n ≤ qs.length := by have := belowN_le (poss S) n; rw [poss_length, ← HL.out] at this; exact this
  obtain ⟨q, hq⟩ : ∃ q, isAt (poss S) n = q := ⟨_, rfl⟩
  obtain ⟨i, hi⟩ : ∃ i, belowN (poss S) n = i := ⟨_, rfl⟩
  have hap : applyS S ⟨112, n, r⟩ place = { S with slots := insL S.slots i ⟨n, place, r⟩ } := by unfold applyS; rw [if_pos rfl, hi]
  rw [hi] at hok hile u1
  rw [hq] at u1
  rw [hap]
  have Hok := hide hok
  clear hok hi hq hap hm hmay
  unfold ptrV at c0
  go_enter Tryz.func40, Tryz.ntmps40
  go_wp2_with (go_at_call 61; rw [HW.out]; refine u1.out.mono ?_; rintro e w' ⟨rfl, nq, hw'⟩; subst hw')
  obtain ⟨W2, hW2⟩ : ∃ W2, (W1.drewN nq).drew = W2 := ⟨_, rfl⟩
  have B2 : Below W1.heap.size W1 W2 := by rw [← hW2]; exact ⟨rfl, rfl, rfl, Nat.le_refl _, fun _ _ => rfl⟩
  have hh : W2.heap = W1.heap := by rw [← hW2]; rfl
  have d3 : W2.cell? ⟨m.p, 3, none⟩ = some (.slice sa qs.length caps) := by rw [← hW2]; exact c3
  have l1 : W2.cell? ⟨w.heap.size, 1, none⟩ = some (.int .i64 n) := by rw [← hW2]; exact k1
  have l2 : W2.cell? ⟨w.heap.size, 2, none⟩ = some (.int .i64 r.site) := by rw [← hW2]; exact k2
  have l3 : W2.cell? ⟨w.heap.size, 3, none⟩ = some (.int .i64 r.seq) := by rw [← hW2]; exact k3
  have l4 : W2.cell? ⟨w.heap.size, 4, none⟩ = some (.slice a r.dep.length cap) := by rw [← hW2]; exact k4
  have l5 : W2.cell? ⟨w.heap.size, 5, none⟩ = some (.string r.key) := by rw [← hW2]; exact k5
  have l6 : W2.cell? ⟨w.heap.size, 6, none⟩ = some (.string r.val) := by rw [← hW2]; exact k6
  refine region_headT 15 (fun w2 => w2.cell? ⟨m.p, 3, none⟩ = some (.slice sa qs.length caps) ∧ w2.cell? ⟨w.heap.size, 1, none⟩ = some (.int .i64 n) ∧ w2.cell? ⟨w.heap.size, 2, none⟩ = some (.int .i64 r.site) ∧ w2.cell? ⟨w.heap.size, 3, none⟩ = some (.int .i64 r.seq) ∧ w2.cell? ⟨w.heap.size, 4, none⟩ = some (.slice a r.dep.length cap) ∧ w2.cell? ⟨w.heap.size, 5, none⟩ = some (.string r.key) ∧ w2.cell? ⟨w.heap.size, 6, none⟩ = some (.string r.val)) (by kernel_rfl) (by decide) ?_
  rw [hW2]
  clear hW2 c0 c1 c2 c3 f0 f1 f2 f3 k0 k1 k2 k3 k4 k5 k6
  refine HeadT.take 0 (.pointer (some ⟨m.p, 0, none⟩)) rfl (by kernel_rfl) (.inl ⟨rfl, fun w2 ⟨s0, s1, s2, s3, s4, s5, s6⟩ => by go_simp⟩) ⟨d3, l1, l2, l3, l4, l5, l6⟩ ?_
  refine HeadT.take 1 (.pointer (some ⟨m.p, 0, none⟩)) rfl (by kernel_rfl) (.inl ⟨rfl, fun w2 ⟨s0, s1, s2, s3, s4, s5, s6⟩ => by go_simp⟩) ⟨d3, l1, l2, l3, l4, l5, l6⟩ ?_
  refine HeadT.take 2 (.pointer (some ⟨m.p, 0, none⟩)) rfl (by kernel_rfl) (.inl ⟨rfl, fun w2 ⟨s0, s1, s2, s3, s4, s5, s6⟩ => by go_simp⟩) ⟨d3, l1, l2, l3, l4, l5, l6⟩ ?_
  refine HeadT.take 3 (.pointer (some ⟨m.p, 3, none⟩)) rfl (by kernel_rfl) (.inl ⟨rfl, fun w2 ⟨s0, s1, s2, s3, s4, s5, s6⟩ => by go_simp⟩) ⟨d3, l1, l2, l3, l4, l5, l6⟩ ?_
  refine HeadT.take 4 (.slice sa qs.length caps) rfl (by kernel_rfl) (.inl ⟨rfl, fun w2 ⟨s0, s1, s2, s3, s4, s5, s6⟩ => by go_simp⟩) ⟨d3, l1, l2, l3, l4, l5, l6⟩ ?_
  refine HeadT.take 5 (.int .i64 (i : Int)) rfl (by kernel_rfl) (.inl ⟨rfl, fun w2 ⟨s0, s1, s2, s3, s4, s5, s6⟩ => by go_simp⟩) ⟨d3, l1, l2, l3, l4, l5, l6⟩ ?_
  refine HeadT.take 6 (.pointer (some ⟨w.heap.size, 1, none⟩)) rfl (by kernel_rfl) (.inl ⟨rfl, fun w2 ⟨s0, s1, s2, s3, s4, s5, s6⟩ => by go_simp⟩) ⟨d3, l1, l2, l3, l4, l5, l6⟩ ?_
  refine HeadT.take 7 (.int .i64 n) rfl (by kernel_rfl) (.inl ⟨rfl, fun w2 ⟨s0, s1, s2, s3, s4, s5, s6⟩ => by go_simp⟩) ⟨d3, l1, l2, l3, l4, l5, l6⟩ ?_
  refine HeadT.take 8 (.int .i64 (place : Int)) rfl (by kernel_rfl) (.inl ⟨rfl, fun w2 ⟨s0, s1, s2, s3, s4, s5, s6⟩ => by go_simp⟩) ⟨d3, l1, l2, l3, l4, l5, l6⟩ ?_
  refine HeadT.take 9 (.pointer (some ⟨w.heap.size, 2, none⟩)) rfl (by kernel_rfl) (.inl ⟨rfl, fun w2 ⟨s0, s1, s2, s3, s4, s5, s6⟩ => by go_simp⟩) ⟨d3, l1, l2, l3, l4, l5, l6⟩ ?_
  refine HeadT.take 10 (.agg #[.int .i64 r.site, .int .i64 r.seq, .slice a r.dep.length cap, .string r.key, .string r.val]) rfl (by kernel_rfl) (.inl ⟨rfl, fun w2 ⟨s0, s1, s2, s3, s4, s5, s6⟩ => by go_simp⟩) ⟨d3, l1, l2, l3, l4, l5, l6⟩ ?_
  refine HeadT.take 11 (.agg #[.int .i64 n, .int .i64 (place : Int), .int .i64 r.site, .int .i64 r.seq, .slice a r.dep.length cap, .string r.key, .string r.val]) rfl (by kernel_rfl) (.inl ⟨rfl, fun w2 ⟨s0, s1, s2, s3, s4, s5, s6⟩ => by go_simp⟩) ⟨d3, l1, l2, l3, l4, l5, l6⟩ ?_
  refine HeadT.only 12 (by kernel_rfl) ?_
  obtain ⟨W3, hW3⟩ : ∃ W3, W2.alloc (.cells #[.int .i64 n, .int .i64 (place : Int), .int .i64 r.site, .int .i64 r.seq, .slice a r.dep.length cap, .string r.key, .string r.val] 109) = W3 := ⟨_, rfl⟩
  have B3 : Below W2.heap.size W2 W3 := by rw [← hW3]; exact box_below W2 _
  have y3 : W3.heap[W2.heap.size]? = some (.cells #[.int .i64 n, .int .i64 (place : Int), .int .i64 r.site, .int .i64 r.seq, .slice a r.dep.length cap, .string r.key, .string r.val] 109 (0, 0)) := by rw [← hW3]; exact World.alloc_heap_new W2 _
  have s3 : W3.heap.size = W2.heap.size + 1 := by rw [← hW3]; simp
  refine wpOp_val rfl rfl (v := .pointer (some ⟨W2.heap.size, 0, none⟩)) (w' := W3) (by rw [← hW3]; go_simp) ⟨⟨(B3.cell (p := ⟨m.p, 3, none⟩) (World.block_lt_of_cell? _ _ d3)).trans d3, (B3.cell (p := ⟨w.heap.size, 1, none⟩) (World.block_lt_of_cell? _ _ l1)).trans l1, (B3.cell (p := ⟨w.heap.size, 2, none⟩) (World.block_lt_of_cell? _ _ l2)).trans l2, (B3.cell (p := ⟨w.heap.size, 3, none⟩) (World.block_lt_of_cell? _ _ l3)).trans l3, (B3.cell (p := ⟨w.heap.size, 4, none⟩) (World.block_lt_of_cell? _ _ l4)).trans l4, (B3.cell (p := ⟨w.heap.size, 5, none⟩) (World.block_lt_of_cell? _ _ l5)).trans l5, (B3.cell (p := ⟨w.heap.size, 6, none⟩) (World.block_lt_of_cell? _ _ l6)).trans l6⟩, ?_⟩
  refine HeadT.only 13 (by kernel_rfl) ?_
  obtain ⟨W4, hW4⟩ : ∃ W4, W3.alloc (.cells #[ptrV W2.heap.size] 106) = W4 := ⟨_, rfl⟩
  have B4 : Below W3.heap.size W3 W4 := by rw [← hW4]; exact box_below W3 _
  have z4 : W4.heap[W3.heap.size]? = some (.cells #[ptrV W2.heap.size] 106 (0, 0)) := by rw [← hW4]; exact World.alloc_heap_new W3 _
  have B24 : Below W2.heap.size W2 W4 := B3.trans (B4.mono B3.size)
  have S4 : W4.cell? ⟨m.p, 3, none⟩ = some (.slice sa qs.length caps) ∧ W4.cell? ⟨w.heap.size, 1, none⟩ = some (.int .i64 n) ∧ W4.cell? ⟨w.heap.size, 2, none⟩ = some (.int .i64 r.site) ∧ W4.cell? ⟨w.heap.size, 3, none⟩ = some (.int .i64 r.seq) ∧ W4.cell? ⟨w.heap.size, 4, none⟩ = some (.slice a r.dep.length cap) ∧ W4.cell? ⟨w.heap.size, 5, none⟩ = some (.string r.key) ∧ W4.cell? ⟨w.heap.size, 6, none⟩ = some (.string r.val) :=
    ⟨(B24.cell (p := ⟨m.p, 3, none⟩) (World.block_lt_of_cell? _ _ d3)).trans d3, (B24.cell (p := ⟨w.heap.size, 1, none⟩) (World.block_lt_of_cell? _ _ l1)).trans l1, (B24.cell (p := ⟨w.heap.size, 2, none⟩) (World.block_lt_of_cell? _ _ l2)).trans l2, (B24.cell (p := ⟨w.heap.size, 3, none⟩) (World.block_lt_of_cell? _ _ l3)).trans l3, (B24.cell (p := ⟨w.heap.size, 4, none⟩) (World.block_lt_of_cell? _ _ l4)).trans l4, (B24.cell (p := ⟨w.heap.size, 5, none⟩) (World.block_lt_of_cell? _ _ l5)).trans l5, (B24.cell (p := ⟨w.heap.size, 6, none⟩) (World.block_lt_of_cell? _ _ l6)).trans l6⟩
  refine wpOp_val rfl rfl (v := .slice (some ⟨W3.heap.size, 0, none⟩) 1 1) (w' := W4) (by rw [← hW4]; go_simp; rfl) ⟨S4, ?_⟩
  refine HeadT.only 14 (by kernel_rfl) ?_
  have r4 : W4.ownsRow B 106 1 (.slice sa qs.length caps) qs.length (qs.map ptrV) := own_below (ownsRow_of_heap Hr1.out fun k _ => by rw [hh]) B24
  have hWs : W1.heap.size = W2.heap.size := by rw [hh]
  have hvb : (Value.slice sa qs.length caps).ownBlock ≠ some W3.heap.size := fun e => by
    have := (Hr1.out.lt _ e).2
    omega
  have C := insSlot_calls B (.slice sa qs.length caps) qs i W3.heap.size W2.heap.size W4 r4 (by have := HB.size; have := B24.size; omega) (by have := HL.out; omega) hile z4 hvb
  refine wpOp_call rfl rfl 67 #[.slice sa qs.length caps, .int .i64 (i : Int), .slice (some ⟨W3.heap.size, 0, none⟩) 1 1] (by go_simp) C ?_
  rintro e w5 ⟨v', rfl, hown, ht5, hat5⟩
  have B04 : Below w.heap.size w W4 := HB.trans (((B2.trans (B24.mono B2.size))).mono HB.size)
  have d4 : IsSeg W4 B m S := Hd.out.keep B04
  have p4 : W4.heap[m.p]? = some (.cells #[ptrV m.dp, .int .i64 S.sealed, .int .i64 S.trim, .slice sa qs.length caps] 82 (0, 0)) := keepB (show W2.heap[m.p]? = _ by rw [hh]; exact Hp.out) B24
  have sl : ∀ j (h1 : j < (insL qs i W2.heap.size).length) (h2 : j < (insL S.slots i ⟨n, place, r⟩).length), SlotAt W4 m.c (insL qs i W2.heap.size)[j] (insL S.slots i ⟨n, place, r⟩)[j] := by
    intro j h1 h2
    have hSl := HL.out
    have g1 := insL_get qs i W2.heap.size hile j
    have g2 := insL_get S.slots i ⟨n, place, r⟩ (by omega) j
    rw [List.getElem?_eq_getElem h1] at g1
    rw [List.getElem?_eq_getElem h2] at g2
    have old : ∀ k, k < qs.length → ∀ q s, qs[k]? = some q → S.slots[k]? = some s → SlotAt W4 m.c q s := fun k hk q s e1 e2 => by
      rw [List.getElem?_eq_getElem hk] at e1
      rw [List.getElem?_eq_getElem (by omega)] at e2
      cases e1
      cases e2
      exact (((Hsl.out k hk (by omega)).below B2).below B24)
    rw [insL_length _ _ _ hile] at h1
    by_cases c1 : j < i
    · rw [if_pos c1] at g1 g2
      exact old j (by omega) _ _ g1.symm g2.symm
    · rw [if_neg c1] at g1 g2
      by_cases c2 : j = i
      · rw [if_pos c2] at g1 g2
        rw [Option.some.inj g1, Option.some.inj g2]
        refine ⟨.slice a r.dep.length cap, by have := Hd1.out.cl; omega, keepB y3 B4, own_below (own_below (own_below Hr.out HB) B2) B24⟩
      · rw [if_neg c2] at g1 g2
        exact old (j - 1) (by omega) _ _ g1.symm g2.symm
  obtain ⟨I6, T6, G6, p5⟩ := IsSeg.row d4 Hvs.out (by rw [insL_length _ _ _ hile, insL_length _ _ _ (by have := HL.out; omega), HL.out]) p4 sl hown ht5 hat5 Hok.out
  have d5 := (cells4 p5).2.2.2.1
  have f5 := frozenAt p5 3
  obtain ⟨va, vc, rfl⟩ := ownsRow_slice hown
  have F := hide (show ∃ sg', IsSeg (w5.setCell ⟨m.p, 3, none⟩ (.slice va (insL qs i W2.heap.size).length vc)) B { m with sg := sg' } { S with slots := insL S.slots i ⟨n, place, r⟩ } ∧ Touch m.on w (w5.setCell ⟨m.p, 3, none⟩ (.slice va (insL qs i W2.heap.size).length vc)) ∧ (∀ k, sg' = some k → m.sg = some k ∨ w.heap.size ≤ k) from
    ⟨_, I6, T6.of_touch B04, fun k hk => (G6 k hk).imp id fun h => Nat.le_trans B04.size h⟩)
  have kw : ∀ j x, W4.cell? ⟨w.heap.size, j, none⟩ = some x → w5.cell? ⟨w.heap.size, j, none⟩ = some x := fun j x h => by
    have x1 : w.heap.size < W4.heap.size := World.block_lt_of_cell? _ _ h
    have x2 : (Value.slice sa qs.length caps).ownBlock ≠ some w.heap.size := fun e => by
      have := (Hr1.out.lt _ e)
      rcases (Hd.out.val) with ⟨v0, qs0, hv0, -, hp0, hr0, -⟩
      have h1 := (hr0.lt w.heap.size (by rw [hv0, ← Hvs.out]; exact e)).2
      omega
    rw [World.cell?_of_block (w' := w5) (w := W4) (a := ⟨w.heap.size, j, none⟩) (ht5.block _ x1 x2)]
    exact h
  refine ⟨_, rfl, ⟨d5, kw 1 _ S4.2.1, kw 2 _ S4.2.2.1, kw 3 _ S4.2.2.2.1, kw 4 _ S4.2.2.2.2.1, kw 5 _ S4.2.2.2.2.2.1, kw 6 _ S4.2.2.2.2.2.2⟩, ?_⟩
  refine HeadT.tail rfl (by kernel_rfl) ?_
  clear I6 T6 G6 p5 hown ht5 hat5 sl p4 d4 B04 C hvb r4 S4 z4 B4 B24 hW4 y3 B3 hW3 d3 l1 l2 l3 l4 l5 l6 B2 hh kw
  generalize (insL qs i W2.heap.size).length = ln at *
  simp only [List.drop_succ_cons, List.drop_zero]
  go_wp2_with fail
  simp only [noPanic]
  go_wp2_with fail
  go_end0
  exact ⟨rfl, F.out⟩

end Go.Proofs.YtncmocmmkbmmjaaGreatDoor

/- seg's apply: seals, cuts, trims; all of it. Own work; no statement. -/
set_option linter.unusedSimpArgs false
set_option linter.unusedVariables false
namespace Go.Proofs.YtncmocmmkbmmjaaGreatDoor
open Go.RowKit Go.Shelf Go.Sort

set_option maxHeartbeats 4000000 in
set_option maxRecDepth 100000 in
theorem apply_seal (B : Nat) (m : SegM) (S : SegD) (n : Int) (r : RecD) (v : Value) (place : Nat) (w : World) (hd : IsSeg w B m S) (hB : B ≤ w.heap.size) (hv : IsEnt w m.c v ⟨115, n, r⟩) (h0 : S.sealed < n) (h1 : n ≤ 2147483647) :
    Calls Tryz.prog 40 #[.pointer (some ⟨m.p, 0, none⟩), v, .int .i64 (place : Int)] w fun x w' => x = .returned (.tuple #[]) ∧ IsSeg w' B m ({ S with sealed := n }) ∧ Touch m.on w w' := by
  obtain ⟨vd, rfl, hr⟩ := hv
  obtain ⟨a, cap, rfl⟩ := ownsRow_slice hr
  dsimp only at *
  have HB := box_below w (.cells #[.string ⟨#[115]⟩, .int .i64 n, .int .i64 r.site, .int .i64 r.seq, .slice a r.dep.length cap, .string r.key, .string r.val] 84)
  obtain ⟨W1, hW1⟩ : ∃ W1, w.alloc (.cells #[.string ⟨#[115]⟩, .int .i64 n, .int .i64 r.site, .int .i64 r.seq, .slice a r.dep.length cap, .string r.key, .string r.val] 84) = W1 := ⟨_, rfl⟩
  have x0 : W1.heap[w.heap.size]? = some (.cells #[.string ⟨#[115]⟩, .int .i64 n, .int .i64 r.site, .int .i64 r.seq, .slice a r.dep.length cap, .string r.key, .string r.val] 84 (0, 0)) := by rw [← hW1]; exact World.alloc_heap_new w _
  rw [hW1] at HB
  have hd1 := hd.keep HB
  have u1 := hide (find_calls B m S n W1 hd1)
  obtain ⟨vs, qs, hvs, hl, hp, hr1, hsl⟩ := hd1.val
  obtain ⟨c0, c1, c2, c3, f0, f1, f2, f3⟩ := cells4 hp
  obtain ⟨k0, k1, -, -, -, -, -, -, -, -, -, -, -, -⟩ := cells7 x0
  obtain ⟨sa, caps, rfl⟩ := ownsRow_slice hr1
  have hile : belowN (poss S) n ≤ qs.length := by have := belowN_le (poss S) n; rw [poss_length, ← hl] at this; exact this
  have HW := hide hW1
  have HL := hide hl
  have Hd := hide hd
  have Hd1 := hide hd1
  have Hr1 := hide hr1
  have Hsl := hide hsl
  have Hvs := hide hvs
  have Hp := hide hp
  have hlen := hd.disk.len
  have hfew := hd.ok.few
  have X0 := hide x0
  clear hd hd1 hp hr hr1 hl x0 hW1 hsl hvs
  obtain ⟨q, hq⟩ : ∃ q, isAt (poss S) n = q := ⟨_, rfl⟩
  obtain ⟨i, hi⟩ : ∃ i, belowN (poss S) n = i := ⟨_, rfl⟩
  rw [hi] at hile u1
  rw [hq] at u1
  have Hi := hide hi
  clear hi hq
  unfold ptrV at c0
  go_enter Tryz.func40, Tryz.ntmps40
  go_wp2_with (go_at_call 61; rw [HW.out]; refine u1.out.mono ?_; rintro e w' ⟨rfl, nq, hw'⟩; subst hw')
  go_end0
  have I := IsSeg.nums (S' := { S with sealed := n }) (W := (W1.drewN nq).setCell ⟨m.p, 1, none⟩ (.int .i64 n)) (Hd1.out.drews nq) (seal_ok Hd.out.ok h0 h1) rfl rfl (touch_set (S := fun k => k = m.p) _ _ _ rfl) (fun v hv => by simpa using setAt (j := 1) hv _)
  exact ⟨rfl, I.1, (I.2.of_touch (drewsB W1 nq)).of_touch HB⟩

set_option maxHeartbeats 4000000 in
set_option maxRecDepth 100000 in
theorem apply_cut (B : Nat) (m : SegM) (S : SegD) (n : Int) (r : RecD) (v : Value) (place : Nat) (w : World) (hd : IsSeg w B m S) (hB : B ≤ w.heap.size) (hv : IsEnt w m.c v ⟨99, n, r⟩)  :
    Calls Tryz.prog 40 #[.pointer (some ⟨m.p, 0, none⟩), v, .int .i64 (place : Int)] w fun x w' => x = .returned (.tuple #[]) ∧ IsSeg w' B m ({ S with slots := S.slots.take (belowN (poss S) n) }) ∧ Touch m.on w w' := by
  obtain ⟨vd, rfl, hr⟩ := hv
  obtain ⟨a, cap, rfl⟩ := ownsRow_slice hr
  dsimp only at *
  have HB := box_below w (.cells #[.string ⟨#[99]⟩, .int .i64 n, .int .i64 r.site, .int .i64 r.seq, .slice a r.dep.length cap, .string r.key, .string r.val] 84)
  obtain ⟨W1, hW1⟩ : ∃ W1, w.alloc (.cells #[.string ⟨#[99]⟩, .int .i64 n, .int .i64 r.site, .int .i64 r.seq, .slice a r.dep.length cap, .string r.key, .string r.val] 84) = W1 := ⟨_, rfl⟩
  have x0 : W1.heap[w.heap.size]? = some (.cells #[.string ⟨#[99]⟩, .int .i64 n, .int .i64 r.site, .int .i64 r.seq, .slice a r.dep.length cap, .string r.key, .string r.val] 84 (0, 0)) := by rw [← hW1]; exact World.alloc_heap_new w _
  rw [hW1] at HB
  have hd1 := hd.keep HB
  have u1 := hide (find_calls B m S n W1 hd1)
  obtain ⟨vs, qs, hvs, hl, hp, hr1, hsl⟩ := hd1.val
  obtain ⟨c0, c1, c2, c3, f0, f1, f2, f3⟩ := cells4 hp
  obtain ⟨k0, k1, -, -, -, -, -, -, -, -, -, -, -, -⟩ := cells7 x0
  obtain ⟨sa, caps, rfl⟩ := ownsRow_slice hr1
  have hile : belowN (poss S) n ≤ qs.length := by have := belowN_le (poss S) n; rw [poss_length, ← hl] at this; exact this
  have HW := hide hW1
  have HL := hide hl
  have Hd := hide hd
  have Hd1 := hide hd1
  have Hr1 := hide hr1
  have Hsl := hide hsl
  have Hvs := hide hvs
  have Hp := hide hp
  have hlen := hd.disk.len
  have hfew := hd.ok.few
  have X0 := hide x0
  clear hd hd1 hp hr hr1 hl x0 hW1 hsl hvs
  obtain ⟨q, hq⟩ : ∃ q, isAt (poss S) n = q := ⟨_, rfl⟩
  obtain ⟨i, hi⟩ : ∃ i, belowN (poss S) n = i := ⟨_, rfl⟩
  rw [hi] at hile u1
  rw [hq] at u1
  have Hi := hide hi
  clear hi hq
  unfold ptrV at c0
  go_enter Tryz.func40, Tryz.ntmps40
  go_wp2_with (go_at_call 61; rw [HW.out]; refine u1.out.mono ?_; rintro e w' ⟨rfl, nq, hw'⟩; subst hw')
  obtain ⟨W2, hW2⟩ : ∃ W2, (W1.drewN nq).drew = W2 := ⟨_, rfl⟩
  have B2 : Below W1.heap.size W1 W2 := by rw [← hW2]; exact ⟨rfl, rfl, rfl, Nat.le_refl _, fun _ _ => rfl⟩
  have d3 : W2.cell? ⟨m.p, 3, none⟩ = some (.slice sa qs.length caps) := by rw [← hW2]; exact c3
  refine region_headT 12 (fun w2 => w2.cell? ⟨m.p, 3, none⟩ = some (.slice sa qs.length caps)) (by kernel_rfl) (by decide) ?_
  rw [hW2]
  clear hW2 c0 c1 c2 c3 f0 f1 f2 f3
  refine HeadT.take 0 (.pointer (some ⟨m.p, 0, none⟩)) rfl (by kernel_rfl) (.inl ⟨rfl, fun w2 s0 => by go_simp⟩) d3 ?_
  refine HeadT.take 1 (.pointer (some ⟨m.p, 0, none⟩)) rfl (by kernel_rfl) (.inl ⟨rfl, fun w2 s0 => by go_simp⟩) d3 ?_
  refine HeadT.take 2 (.pointer (some ⟨m.p, 0, none⟩)) rfl (by kernel_rfl) (.inl ⟨rfl, fun w2 s0 => by go_simp⟩) d3 ?_
  refine HeadT.take 3 (.pointer (some ⟨m.p, 3, none⟩)) rfl (by kernel_rfl) (.inl ⟨rfl, fun w2 s0 => by go_simp⟩) d3 ?_
  refine HeadT.take 4 (.slice sa qs.length caps) rfl (by kernel_rfl) (.inl ⟨rfl, fun w2 s0 => by go_simp⟩) d3 ?_
  refine HeadT.take 5 (.int .i64 (i : Int)) rfl (by kernel_rfl) (.inl ⟨rfl, fun w2 s0 => by go_simp⟩) d3 ?_
  refine HeadT.take 6 (.pointer (some ⟨m.p, 0, none⟩)) rfl (by kernel_rfl) (.inl ⟨rfl, fun w2 s0 => by go_simp⟩) d3 ?_
  refine HeadT.take 7 (.pointer (some ⟨m.p, 0, none⟩)) rfl (by kernel_rfl) (.inl ⟨rfl, fun w2 s0 => by go_simp⟩) d3 ?_
  refine HeadT.take 8 (.pointer (some ⟨m.p, 3, none⟩)) rfl (by kernel_rfl) (.inl ⟨rfl, fun w2 s0 => by go_simp⟩) d3 ?_
  refine HeadT.take 9 (.slice sa qs.length caps) rfl (by kernel_rfl) (.inl ⟨rfl, fun w2 s0 => by go_simp⟩) d3 ?_
  refine HeadT.take 10 (.int .i64 (qs.length : Int)) rfl (by kernel_rfl) (.inl ⟨rfl, fun w2 s0 => by go_simp⟩) d3 ?_
  refine HeadT.only 11 (by kernel_rfl) ?_
  have r2 : W2.ownsRow B 106 1 (.slice sa qs.length caps) qs.length (qs.map ptrV) := own_below Hr1.out B2
  refine wpOp_call rfl rfl 68 #[.slice sa qs.length caps, .int .i64 (i : Int), .int .i64 (qs.length : Int)] (by go_simp) (delSlots_calls B i qs.length caps sa qs W2 r2 (by omega) (by omega)) ?_
  rintro e w5 ⟨rfl, hown, ht5⟩
  have hqs : qs.take i ++ qs.drop qs.length = qs.take i := by simp
  rw [hqs] at hown ⊢
  have hSl := HL.out
  have B02 : Below w.heap.size w W2 := HB.trans (B2.mono HB.size)
  have d2 : IsSeg W2 B m S := Hd.out.keep B02
  have p2 : W2.heap[m.p]? = some (.cells #[ptrV m.dp, .int .i64 S.sealed, .int .i64 S.trim, .slice sa qs.length caps] 82 (0, 0)) := keepB Hp.out B2
  have sl : ∀ j (h1 : j < (qs.take i).length) (h2 : j < (S.slots.take i).length), SlotAt W2 m.c (qs.take i)[j] (S.slots.take i)[j] := by
    intro j h1 h2
    simp only [List.getElem_take]
    exact (Hsl.out j (by simp at h1; omega) (by simp at h2; omega)).below B2
  obtain ⟨I6, T6, G6, p5⟩ := IsSeg.row d2 Hvs.out (by simp [hSl]) p2 sl hown ht5 (fun k hk => .inl (by cases sa <;> exact hk)) (take_ok Hd.out.ok i)
  have d5 := (cells4 p5).2.2.2.1
  have f5 := frozenAt p5 3
  have F := hide (show IsSeg (w5.setCell ⟨m.p, 3, none⟩ (.slice sa (qs.take i).length caps)) B m { S with slots := S.slots.take (belowN (poss S) n) } ∧ Touch m.on w (w5.setCell ⟨m.p, 3, none⟩ (.slice sa (qs.take i).length caps)) from by
    rw [Hi.out]
    have e : ({ m with sg := (Value.slice sa (qs.take i).length caps).ownBlock } : SegM) = m := by
      rw [show (Value.slice sa (qs.take i).length caps).ownBlock = m.sg by rw [← Hvs.out]; cases sa <;> rfl]
    rw [e] at I6
    exact ⟨I6, T6.of_touch B02⟩)
  refine ⟨_, rfl, d5, ?_⟩
  refine HeadT.tail rfl (by kernel_rfl) ?_
  clear I6 T6 G6 p5 hown ht5 sl p2 d2 B02 r2 d3 B2 hSl hqs hile
  generalize (qs.take i).length = ln at *
  simp only [List.drop_succ_cons, List.drop_zero]
  go_wp2_with fail
  simp only [noPanic]
  go_wp2_with fail
  go_end0
  exact ⟨rfl, F.out⟩

set_option maxHeartbeats 4000000 in
set_option maxRecDepth 100000 in
theorem apply_trim (B : Nat) (m : SegM) (S : SegD) (n : Int) (r : RecD) (v : Value) (place : Nat) (w : World) (hd : IsSeg w B m S) (hB : B ≤ w.heap.size) (hv : IsEnt w m.c v ⟨116, n, r⟩) (h0 : S.trim < n) (h1 : n ≤ 2147483647) :
    Calls Tryz.prog 40 #[.pointer (some ⟨m.p, 0, none⟩), v, .int .i64 (place : Int)] w fun x w' => x = .returned (.tuple #[]) ∧ IsSeg w' B m ({ S with slots := S.slots.drop (belowN (poss S) n), trim := n }) ∧ Touch m.on w w' := by
  obtain ⟨vd, rfl, hr⟩ := hv
  obtain ⟨a, cap, rfl⟩ := ownsRow_slice hr
  dsimp only at *
  have HB := box_below w (.cells #[.string ⟨#[116]⟩, .int .i64 n, .int .i64 r.site, .int .i64 r.seq, .slice a r.dep.length cap, .string r.key, .string r.val] 84)
  obtain ⟨W1, hW1⟩ : ∃ W1, w.alloc (.cells #[.string ⟨#[116]⟩, .int .i64 n, .int .i64 r.site, .int .i64 r.seq, .slice a r.dep.length cap, .string r.key, .string r.val] 84) = W1 := ⟨_, rfl⟩
  have x0 : W1.heap[w.heap.size]? = some (.cells #[.string ⟨#[116]⟩, .int .i64 n, .int .i64 r.site, .int .i64 r.seq, .slice a r.dep.length cap, .string r.key, .string r.val] 84 (0, 0)) := by rw [← hW1]; exact World.alloc_heap_new w _
  rw [hW1] at HB
  have hd1 := hd.keep HB
  have u1 := hide (find_calls B m S n W1 hd1)
  obtain ⟨vs, qs, hvs, hl, hp, hr1, hsl⟩ := hd1.val
  obtain ⟨c0, c1, c2, c3, f0, f1, f2, f3⟩ := cells4 hp
  obtain ⟨k0, k1, -, -, -, -, -, -, -, -, -, -, -, -⟩ := cells7 x0
  obtain ⟨sa, caps, rfl⟩ := ownsRow_slice hr1
  have hile : belowN (poss S) n ≤ qs.length := by have := belowN_le (poss S) n; rw [poss_length, ← hl] at this; exact this
  have HW := hide hW1
  have HL := hide hl
  have Hd := hide hd
  have Hd1 := hide hd1
  have Hr1 := hide hr1
  have Hsl := hide hsl
  have Hvs := hide hvs
  have Hp := hide hp
  have hlen := hd.disk.len
  have hfew := hd.ok.few
  have X0 := hide x0
  clear hd hd1 hp hr hr1 hl x0 hW1 hsl hvs
  obtain ⟨q, hq⟩ : ∃ q, isAt (poss S) n = q := ⟨_, rfl⟩
  obtain ⟨i, hi⟩ : ∃ i, belowN (poss S) n = i := ⟨_, rfl⟩
  rw [hi] at hile u1
  rw [hq] at u1
  have Hi := hide hi
  clear hi hq
  unfold ptrV at c0
  go_enter Tryz.func40, Tryz.ntmps40
  go_wp2_with (go_at_call 61; rw [HW.out]; refine u1.out.mono ?_; rintro e w' ⟨rfl, nq, hw'⟩; subst hw')
  have r2 : (W1.drewN nq).ownsRow B 106 1 (.slice sa qs.length caps) qs.length (qs.map ptrV) := own_below Hr1.out (drewsB W1 nq)
  have hC := delSlots_calls B 0 i caps sa qs (W1.drewN nq) r2 (Nat.zero_le _) hile
  refine hC.mono ?_
  rintro e w5 ⟨rfl, hown, ht5⟩
  have hqs : qs.take 0 ++ qs.drop i = qs.drop i := by simp
  rw [hqs] at hown ⊢
  have hSl := HL.out
  have B2 := drewsB W1 nq
  have B02 : Below w.heap.size w (W1.drewN nq) := HB.trans (B2.mono HB.size)
  have d2 : IsSeg (W1.drewN nq) B m S := Hd.out.keep B02
  have p2 : (W1.drewN nq).heap[m.p]? = some (.cells #[ptrV m.dp, .int .i64 S.sealed, .int .i64 S.trim, .slice sa qs.length caps] 82 (0, 0)) := keepB Hp.out B2
  have sl : ∀ j (h1 : j < (qs.drop i).length) (h2 : j < (S.slots.drop i).length), SlotAt (W1.drewN nq) m.c (qs.drop i)[j] (S.slots.drop i)[j] := by
    intro j h1 h2
    simp only [List.getElem_drop]
    exact (Hsl.out (i + j) (by simp at h1; omega) (by simp at h2; omega)).below B2
  obtain ⟨I6, T6, G6, p5⟩ := IsSeg.row d2 Hvs.out (by simp [hSl]) p2 sl hown ht5 (fun k hk => .inl (by cases sa <;> exact hk)) (drop_ok Hd.out.ok i)
  have hlt : m.p < w.heap.size := Hd.out.lt
  have k5 : w5.cell? ⟨w.heap.size, 1, none⟩ = some (.int .i64 n) := by
    have x2 : (Value.slice sa qs.length caps).ownBlock ≠ some w.heap.size := fun e => by
      rcases Hd.out.val with ⟨v0, qs0, hv0, -, hp0, hr0, -⟩
      have h1 := (hr0.lt w.heap.size (by rw [hv0, ← Hvs.out]; exact e)).2
      omega
    rw [World.cell?_of_block (w' := w5) (w := W1.drewN nq) (a := ⟨w.heap.size, 1, none⟩) (ht5.block _ (ltAt X0.out) x2)]
    exact k1
  have d5 := (cells4 p5).2.2.2.1
  have e5 := (cells4 p5).2.2.1
  have f5 := frozenAt p5 3
  have g5 := frozenAt p5 2
  have F := hide (show IsSeg ((w5.setCell ⟨m.p, 3, none⟩ (.slice sa (qs.drop i).length caps)).setCell ⟨m.p, 2, none⟩ (.int .i64 n)) B m { S with slots := S.slots.drop (belowN (poss S) n), trim := n } ∧ Touch m.on w ((w5.setCell ⟨m.p, 3, none⟩ (.slice sa (qs.drop i).length caps)).setCell ⟨m.p, 2, none⟩ (.int .i64 n)) from by
    have e : ({ m with sg := (Value.slice sa (qs.drop i).length caps).ownBlock } : SegM) = m := by
      rw [show (Value.slice sa (qs.drop i).length caps).ownBlock = m.sg by rw [← Hvs.out]; cases sa <;> rfl]
    rw [e] at I6
    have I7 := IsSeg.nums (S' := { S with slots := S.slots.drop (belowN (poss S) n), trim := n }) (W := (w5.setCell ⟨m.p, 3, none⟩ (.slice sa (qs.drop i).length caps)).setCell ⟨m.p, 2, none⟩ (.int .i64 n)) I6 (trim_ok Hd.out.ok h0 h1) rfl (by rw [Hi.out]) (touch_set (S := fun k => k = m.p) _ _ _ rfl) (fun v hv => by simpa using setAt (j := 2) hv _)
    exact ⟨I7.1, (T6.of_touch B02).trans I7.2⟩)
  have hne : ¬ w.heap.size = m.p := by omega
  have hne' : ¬ m.p = w.heap.size := by omega
  clear I6 T6 G6 p5 hown ht5 sl p2 d2 B02 r2 B2 hSl hqs hile hC c0 c1 c2 c3 f0 f1 f2 f3 k0 k1
  generalize (qs.drop i).length = ln at *
  go_wp2_with fail
  go_end0
  exact ⟨rfl, F.out⟩

/-- What entries there are. -/
def EntOk (S : SegD) (e : EntD) : Prop := (e.sign = 112 ∨ e.sign = 115 ∨ e.sign = 99 ∨ e.sign = 116) ∧ 0 ≤ e.n ∧ e.n ≤ 2147483647 ∧ (e.sign = 112 → GoodR e.r ∧ S.slots.length < S.D.lines.length)

theorem apply_calls (B : Nat) (m : SegM) (S : SegD) (e : EntD) (v : Value) (place : Nat) (w : World) (hd : IsSeg w B m S) (hB : B ≤ w.heap.size) (hv : IsEnt w m.c v e) (hm : mayS S e = true) (he : EntOk S e) (hp : place ≤ 1048575) :
    Calls Tryz.prog 40 #[.pointer (some ⟨m.p, 0, none⟩), v, .int .i64 (place : Int)] w fun x w' => x = .returned (.tuple #[]) ∧ ∃ sg', IsSeg w' B { m with sg := sg' } (applyS S e place) ∧ Touch m.on w w' ∧ (∀ k, sg' = some k → m.sg = some k ∨ w.heap.size ≤ k) := by
  obtain ⟨sign, n, r⟩ := e
  obtain ⟨hs, h0, h1, h2⟩ := he
  dsimp only at *
  unfold mayS at hm
  dsimp only at hm
  rcases hs with rfl | rfl | rfl | rfl
  · exact apply_put B m S n r v place w hd hB hv hm h1 (h2 rfl).1 hp (h2 rfl).2
  · rw [if_neg (by decide), if_pos rfl, decide_eq_true_eq] at hm
    refine (apply_seal B m S n r v place w hd hB hv hm h1).mono ?_
    rintro x w' ⟨rfl, h3, h4⟩
    refine ⟨rfl, m.sg, ?_, h4, fun k hk => .inl hk⟩
    unfold applyS
    dsimp only
    rw [if_neg (by decide), if_pos rfl]
    exact h3
  · refine (apply_cut B m S n r v place w hd hB hv).mono ?_
    rintro x w' ⟨rfl, h3, h4⟩
    refine ⟨rfl, m.sg, ?_, h4, fun k hk => .inl hk⟩
    unfold applyS
    dsimp only
    rw [if_neg (by decide), if_neg (by decide), if_pos rfl]
    exact h3
  · rw [if_neg (by decide), if_neg (by decide), if_pos rfl, decide_eq_true_eq] at hm
    refine (apply_trim B m S n r v place w hd hB hv hm h1).mono ?_
    rintro x w' ⟨rfl, h3, h4⟩
    refine ⟨rfl, m.sg, ?_, h4, fun k hk => .inl hk⟩
    unfold applyS
    dsimp only
    rw [if_neg (by decide), if_neg (by decide), if_neg (by decide), if_pos rfl]
    exact h3

end Go.Proofs.YtncmocmmkbmmjaaGreatDoor

/- seg's add, addLasting, end. Own work; no statement. -/
set_option linter.unusedSimpArgs false
set_option linter.unusedVariables false
namespace Go.Proofs.YtncmocmmkbmmjaaGreatDoor
open Go.RowKit Go.Shelf Go.Sort

/-- A segment's disk goes on. -/
theorem IsSeg.disk_goes {w w' : World} {B : Nat} {m : SegM} {S : SegD} {g' : Option Nat} {D' : DiskD} (h : IsSeg w B m S) (hd : IsDisk w' B m.dp g' D') (t : Touch (onDisk m.dp m.dg) w w') (hf : S.slots.length ≤ D'.lines.length) (hg : ∀ k, g' = some k → m.dg = some k ∨ w.heap.size ≤ k) :
    IsSeg w' B { m with dg := g' } { S with D := D' } ∧ Touch m.on w w' ∧ (∀ k, ({ m with dg := g' } : SegM).on k → m.on k ∨ w.heap.size ≤ k) := by
  obtain ⟨v, qs, hv, hl, hp, hr, hs⟩ := h.val
  have t1 : Touch m.on w w' := t.mono fun k _ e => .inr (.inr e)
  refine ⟨⟨⟨h.ok.rising, h.ok.each, h.ok.sealed0, h.ok.sealed1, h.ok.trim0, h.ok.trim1, hf⟩, h.low, Nat.le_trans h.cl t.size, hd, v, qs, hv, hl, ?_, ?_, fun i h1 h2 => (hs i h1 h2).touch h t1⟩, t1, ?_⟩
  · exact (t.block m.p (ltAt hp) fun e => (h.disk_off e).1 rfl).trans hp
  · exact ownsRow_of_heap hr fun k hk => t.block k (hr.lt k hk).2 fun e => (h.disk_off e).2 (hv.symm.trans hk)
  · rintro k (e | e | e | e)
    · exact .inl (.inl e)
    · exact .inl (.inr (.inl e))
    · exact .inl (.inr (.inr (.inl e)))
    · rcases hg k e with h1 | h1
      · exact .inl (.inr (.inr (.inr h1)))
      · exact .inr h1

/-- What segments put down. -/
structure EntW (e : EntD) : Prop where
  sign : e.sign = 112 ∨ e.sign = 115 ∨ e.sign = 99 ∨ e.sign = 116
  low : 0 ≤ e.n
  high : e.n ≤ 2147483647
  put : e.sign = 112 → GoodR e.r
  zero : e.sign ≠ 112 → e.r = zeroR

structure RecB (r : RecD) : Prop where
  site0 : -9223372036854775808 ≤ r.site
  site1 : r.site ≤ 9223372036854775807
  seq0 : -9223372036854775808 ≤ r.seq
  seq1 : r.seq ≤ 9223372036854775807
  len : r.dep.length ≤ 8
  inr : InR r.dep
  key : r.key.size ≤ 8
  val : r.val.size ≤ 16

theorem GoodR.b {r : RecD} (h : GoodR r) : RecB r := by
  obtain ⟨-, -, a3, a4, a5, a6, a7, a8, -, a10, a11⟩ := check_parts h
  refine ⟨by omega, by omega, by omega, by omega, by omega, fun x hx => ?_, ?_, ?_⟩
  · have := a8 x hx
    omega
  · unfold isKeyL at a10
    rw [Bool.and_eq_true, decide_eq_true_eq, ← Lib.size_eq] at a10
    omega
  · unfold checkValL at a11
    rw [← Lib.size_eq] at a11
    split at a11
    · split at a11
      · cases a11
      · omega
    · cases a11
theorem zeroR_b : RecB zeroR := ⟨by decide, by decide, by decide, by decide, by decide, fun x hx => (by cases hx), by decide, by decide⟩
theorem EntW.b {e : EntD} (h : EntW e) : RecB e.r := by
  by_cases hs : e.sign = 112
  · exact (h.put hs).b
  · rw [h.zero hs]; exact zeroR_b

/-- What add makes of a segment; what it answers. -/
def addE (S : SegD) (e : EntD) : Int := writeE S.D (textE e)
def addS (S : SegD) (e : EntD) : SegD := if addE S e = 0 then applyS { S with D := writeD S.D (textE e) } e S.D.lines.length else S

theorem textE_size {e : EntD} (h : EntW e) : (textE e).size ≤ 400 := by
  have hb := h.b
  have l1 := Lib.itoa_length_le e.n (by have := h.low; omega) (by have := h.high; omega)
  have z1 : (⟨(Lib.itoa e.n).toArray⟩ : ByteArray).size ≤ 21 := by simpa [ByteArray.size] using l1
  have z2 : (⟨#[e.sign]⟩ : ByteArray).size = 1 := rfl
  have z3 : (⟨#[32]⟩ : ByteArray).size = 1 := rfl
  have z4 := textR_size hb.site0 hb.site1 hb.seq0 hb.seq1 hb.inr
  have := hb.len
  have := hb.key
  have := hb.val
  unfold textE
  split <;> simp only [ByteArray.size_append] <;> omega

theorem writeD_lines {D : DiskD} {s : ByteArray} (h : writeE D s = 0) : (writeD D s).lines = D.lines ++ [s] := by unfold writeD; rw [if_pos h]

theorem mayS_D (S : SegD) (D : DiskD) (e : EntD) : mayS { S with D := D } e = mayS S e := rfl

set_option maxHeartbeats 4000000 in
set_option maxRecDepth 100000 in
theorem add_calls (B : Nat) (m : SegM) (S : SegD) (e : EntD) (v : Value) (w : World) (hd : IsSeg w B m S) (hB : B ≤ w.heap.size) (hv : IsEnt w m.c v e) (hm : mayS S e = true) (he : EntW e) (hp : Pow w) :
    Calls Tryz.prog 53 #[.pointer (some ⟨m.p, 0, none⟩), v] w fun x w' => x = .returned (.int .i64 (addE S e)) ∧ ∃ m', m'.p = m.p ∧ m'.dp = m.dp ∧ m'.c = m.c ∧ IsSeg w' B m' (addS S e) ∧ Touch m.on w w' ∧ (∀ k, m'.on k → m.on k ∨ w.heap.size ≤ k) := by
  have hb := he.b
  have hts := textE_size he
  obtain ⟨vd, rfl, hr⟩ := id hv
  obtain ⟨a, cap, rfl⟩ := ownsRow_slice hr
  have HB := box_below w (.cells #[.string ⟨#[e.sign]⟩, .int .i64 e.n, .int .i64 e.r.site, .int .i64 e.r.seq, .slice a e.r.dep.length cap, .string e.r.key, .string e.r.val] 84)
  obtain ⟨W1, hW1⟩ : ∃ W1, w.alloc (.cells #[.string ⟨#[e.sign]⟩, .int .i64 e.n, .int .i64 e.r.site, .int .i64 e.r.seq, .slice a e.r.dep.length cap, .string e.r.key, .string e.r.val] 84) = W1 := ⟨_, rfl⟩
  have x0 : W1.heap[w.heap.size]? = some (.cells #[.string ⟨#[e.sign]⟩, .int .i64 e.n, .int .i64 e.r.site, .int .i64 e.r.seq, .slice a e.r.dep.length cap, .string e.r.key, .string e.r.val] 84 (0, 0)) := by rw [← hW1]; exact World.alloc_heap_new w _
  rw [hW1] at HB
  have hd1 := hd.keep HB
  have u1 := hide (fun w h => diskLen_calls B m.dp m.dg S.D w h)
  have hlen := hd.disk.len
  obtain ⟨vs, qs, -, -, hp1, -, -⟩ := hd1.val
  obtain ⟨c0, -, -, -, -, -, -, -⟩ := cells4 hp1
  obtain ⟨k0, k1, k2, k3, k4, k5, k6, -, -, -, -, -, -, -⟩ := cells7 x0
  have ut := hide (fun w2 (h2 : Below W1.heap.size W1 w2) => entText_calls m.c _ e w2 ((hv.below HB).below h2) (by have := he.low; omega) (by have := he.high; omega) hb.site0 hb.site1 hb.seq0 hb.seq1 (by have := hb.len; omega) hb.inr (by have := hb.key; omega) (by have := hb.val; omega) ((hp.below HB).below h2))
  obtain ⟨T, hT⟩ : ∃ T, textE e = T := ⟨_, rfl⟩
  obtain ⟨E, hE⟩ : ∃ E, addE S e = E := ⟨_, rfl⟩
  have hE' : writeE S.D T = E := by rw [← hE, ← hT]; rfl
  have hS' : addS S e = if E = 0 then applyS { S with D := writeD S.D T } e S.D.lines.length else S := by unfold addS; rw [hE, hT]
  rw [hT] at ut hts
  obtain ⟨S2, hS2⟩ : ∃ S2, addS S e = S2 := ⟨_, rfl⟩
  rw [hE, hS2]
  have HS : Hid (S2 = if E = 0 then applyS { S with D := writeD S.D T } e S.D.lines.length else S) := hS2.symm.trans hS'
  clear hS2
  have Hd := hide hd
  have Hd1 := hide hd1
  have HE := hide hE'
  have HW := hide hW1
  have Hv := hide hv
  have X0 := hide x0
  have Hp := hide hp1
  clear hd hd1 hE hE' hS' hT hW1 hp hv hr hb x0 hp1
  have hlt : m.p < w.heap.size := Hd.out.lt
  obtain ⟨_, _, -, -, hpw, -, -⟩ := Hd.out.val
  have cw := (cells4 hpw).1
  clear hpw
  unfold ptrV at c0 cw
  go_enter Tryz.func53, Tryz.ntmps53
  go_wp2_with (first | (go_at_call 41; rw [HW.out]; refine (u1.out _ Hd1.out.disk).mono ?_; rintro x w' ⟨rfl, hw'⟩; subst hw'))
  clear cw hlt
  obtain ⟨W2, hW2⟩ : ∃ W2, w'.drew = W2 := ⟨_, rfl⟩
  have B2 : Below w'.heap.size w' W2 := by rw [← hW2]; exact ⟨rfl, rfl, rfl, Nat.le_refl _, fun _ _ => rfl⟩
  have c2 : W2.cell? ⟨m.p, 0, none⟩ = some (.pointer (some ⟨m.dp, 0, none⟩)) := by rw [← hW2]; exact c0
  have l0 : W2.cell? ⟨w.heap.size, 0, none⟩ = some (.string ⟨#[e.sign]⟩) := by rw [← hW2]; exact k0
  have l1 : W2.cell? ⟨w.heap.size, 1, none⟩ = some (.int .i64 e.n) := by rw [← hW2]; exact k1
  have l2 : W2.cell? ⟨w.heap.size, 2, none⟩ = some (.int .i64 e.r.site) := by rw [← hW2]; exact k2
  have l3 : W2.cell? ⟨w.heap.size, 3, none⟩ = some (.int .i64 e.r.seq) := by rw [← hW2]; exact k3
  have l4 : W2.cell? ⟨w.heap.size, 4, none⟩ = some (.slice a e.r.dep.length cap) := by rw [← hW2]; exact k4
  have l5 : W2.cell? ⟨w.heap.size, 5, none⟩ = some (.string e.r.key) := by rw [← hW2]; exact k5
  have l6 : W2.cell? ⟨w.heap.size, 6, none⟩ = some (.string e.r.val) := by rw [← hW2]; exact k6
  refine region_headT 7 (fun w2 => w2.cell? ⟨m.p, 0, none⟩ = some (.pointer (some ⟨m.dp, 0, none⟩)) ∧ w2.cell? ⟨w.heap.size, 0, none⟩ = some (.string ⟨#[e.sign]⟩) ∧ w2.cell? ⟨w.heap.size, 1, none⟩ = some (.int .i64 e.n) ∧ w2.cell? ⟨w.heap.size, 2, none⟩ = some (.int .i64 e.r.site) ∧ w2.cell? ⟨w.heap.size, 3, none⟩ = some (.int .i64 e.r.seq) ∧ w2.cell? ⟨w.heap.size, 4, none⟩ = some (.slice a e.r.dep.length cap) ∧ w2.cell? ⟨w.heap.size, 5, none⟩ = some (.string e.r.key) ∧ w2.cell? ⟨w.heap.size, 6, none⟩ = some (.string e.r.val)) (by kernel_rfl) (by decide) ?_
  rw [hW2]
  clear hW2
  refine HeadT.take 0 (.pointer (some ⟨m.p, 0, none⟩)) rfl (by kernel_rfl) (.inl ⟨rfl, fun w2 ⟨s0, s1, s2, s3, s4, s5, s6, s7⟩ => by go_simp⟩) ⟨c2, l0, l1, l2, l3, l4, l5, l6⟩ ?_
  refine HeadT.take 1 (.pointer (some ⟨m.p, 0, none⟩)) rfl (by kernel_rfl) (.inl ⟨rfl, fun w2 ⟨s0, s1, s2, s3, s4, s5, s6, s7⟩ => by go_simp⟩) ⟨c2, l0, l1, l2, l3, l4, l5, l6⟩ ?_
  refine HeadT.take 2 (.pointer (some ⟨m.p, 0, none⟩)) rfl (by kernel_rfl) (.inl ⟨rfl, fun w2 ⟨s0, s1, s2, s3, s4, s5, s6, s7⟩ => by go_simp⟩) ⟨c2, l0, l1, l2, l3, l4, l5, l6⟩ ?_
  refine HeadT.take 3 (.pointer (some ⟨m.dp, 0, none⟩)) rfl (by kernel_rfl) (.inl ⟨rfl, fun w2 ⟨s0, s1, s2, s3, s4, s5, s6, s7⟩ => by go_simp⟩) ⟨c2, l0, l1, l2, l3, l4, l5, l6⟩ ?_
  refine HeadT.take 4 (.agg #[.string ⟨#[e.sign]⟩, .int .i64 e.n, .int .i64 e.r.site, .int .i64 e.r.seq, .slice a e.r.dep.length cap, .string e.r.key, .string e.r.val]) rfl (by kernel_rfl) (.inl ⟨rfl, fun w2 ⟨s0, s1, s2, s3, s4, s5, s6, s7⟩ => by go_simp⟩) ⟨c2, l0, l1, l2, l3, l4, l5, l6⟩ ?_
  have XA := keepB X0.out B2
  have PA := keepB Hp.out B2
  refine HeadT.only 5 (by kernel_rfl) ?_
  refine wpOp_call rfl rfl 80 #[.agg #[.string ⟨#[e.sign]⟩, .int .i64 e.n, .int .i64 e.r.site, .int .i64 e.r.seq, .slice a e.r.dep.length cap, .string e.r.key, .string e.r.val]] (by go_simp) (ut.out W2 B2) ?_
  rintro x w2 ⟨rfl, hb2'⟩
  have hb2 : Below w'.heap.size w' w2 := B2.trans (hb2'.mono B2.size)
  have xB := cells7 (keepB XA hb2')
  have pB := (cells4 (keepB PA hb2')).1
  unfold ptrV at pB
  refine ⟨_, rfl, ⟨pB, xB.1, xB.2.1, xB.2.2.1, xB.2.2.2.1, xB.2.2.2.2.1, xB.2.2.2.2.2.1, xB.2.2.2.2.2.2.1⟩, ?_⟩
  refine HeadT.only 6 (by kernel_rfl) ?_
  have hd2 := Hd1.out.keep hb2
  have hB2 : B ≤ w2.heap.size := by have := HB.size; have := hb2.size; omega
  have uw := diskWrite_to B m.dp m.dg S.D T E (writeD S.D T) HE.out rfl w2 hd2.disk hB2 (by omega)
  refine wpOp_call rfl rfl 10 #[.pointer (some ⟨m.dp, 0, none⟩), .string T] (by go_simp) uw ?_
  rintro x w3 ⟨rfl, g3, d3, t3, n3⟩
  have s3 : S.slots.length ≤ (writeD S.D T).lines.length := by
    have := Hd.out.ok.few
    unfold writeD
    split
    · simp; omega
    · exact this
  obtain ⟨I3, T3, G3⟩ := hd2.disk_goes d3 t3 s3 n3
  have B02 : Below w.heap.size w w2 := HB.trans (hb2.mono HB.size)
  have hB3 : B ≤ w3.heap.size := by have := t3.size; omega
  have x3 : w3.heap[w.heap.size]? = some (.cells #[.string ⟨#[e.sign]⟩, .int .i64 e.n, .int .i64 e.r.site, .int .i64 e.r.seq, .slice a e.r.dep.length cap, .string e.r.key, .string e.r.val] 84 (0, 0)) := by
    have x2 := keepB X0.out hb2
    refine (t3.block w.heap.size (ltAt x2) fun h => ?_).trans x2
    have := Hd.out.disk.on h
    omega
  have v3 : IsEnt w3 m.c (.agg #[.string ⟨#[e.sign]⟩, .int .i64 e.n, .int .i64 e.r.site, .int .i64 e.r.seq, .slice a e.r.dep.length cap, .string e.r.key, .string e.r.val]) e := by
    obtain ⟨vd, hvd, hr⟩ := (Hv.out.below B02)
    refine ⟨vd, hvd, ownsRow_of_heap hr fun k hk => t3.block k (hr.lt k hk).2 fun e' => ?_⟩
    obtain ⟨-, -, c', t', h1, h2, h3⟩ := hd2.types (.inr (.inr e'))
    exact row_not hr h1 h3 hk.symm
  obtain ⟨_, _, -, -, hp3, -, -⟩ := I3.val
  have c3 := (cells4 hp3).1
  obtain ⟨j0, j1, j2, j3, j4, j5, j6, -, -, -, -, -, -, -⟩ := cells7 x3
  unfold ptrV at c3
  dsimp only at c3
  refine ⟨_, rfl, ⟨c3, j0, j1, j2, j3, j4, j5, j6⟩, ?_⟩
  refine HeadT.tail rfl (by kernel_rfl) ?_
  clear hp3 x3 hd2 uw ut u1 c0 k0 k1 k2 k3 k4 k5 k6 d3 n3 hb2 t3 c2 l0 l1 l2 l3 l4 l5 l6 xB pB XA PA hb2' B2
  simp only [List.drop_succ_cons, List.drop_zero]
  by_cases hE : E = 0
  · have e2 := HS.out
    rw [if_pos hE] at e2
    subst e2
    subst hE
    have hap := hide (apply_calls B { m with dg := g3 } { S with D := writeD S.D T } e _ S.D.lines.length w3 I3 hB3 v3 hm ⟨he.sign, he.low, he.high, fun h => ⟨he.put h, by dsimp only; rw [writeD_lines HE.out]; have := Hd.out.ok.few; simp; omega⟩⟩ (by
      have h1 := I3.disk.len
      dsimp only at h1
      rw [writeD_lines HE.out] at h1
      simp at h1
      omega))
    have HG := hide G3
    clear G3 I3 v3
    go_wp2_with fail
    simp only [noPanic]
    go_wp2_with (first | (go_at_call 40; refine hap.out.mono ?_; rintro x w4 ⟨rfl, sg4, I4, T4, G4⟩))
    go_ret
    refine ⟨rfl, { m with dg := g3, sg := sg4 }, rfl, rfl, rfl, I4, ((T3.next T4 fun i hi h => ?_).of_touch B02), fun k hk => ?_⟩
    · rcases HG.out i h with h1 | h1
      · exact h1
      · omega
    · have hsz := B02.size
      have hs3 := T3.size
      rcases hk with h1 | h1 | h1
      · exact .inl (.inl h1)
      · rcases G4 k h1 with h2 | h2
        · exact .inl (.inr (.inl h2))
        · exact .inr (by omega)
      · rcases HG.out k (.inr (.inr h1)) with h2 | h2
        · exact .inl h2
        · exact .inr (by omega)
  · have e2 := HS.out
    rw [if_neg hE] at e2
    subst e2
    have hE' : (E != 0) = true := by simp [hE]
    have hDD : writeD S2.D T = S2.D := by unfold writeD; rw [HE.out, if_neg hE]
    rw [hDD] at I3
    have I := hide I3
    have HG := hide G3
    clear I3 G3 v3
    go_wp2_with fail
    simp only [noPanic]
    go_wp2_with fail
    go_ret
    exact ⟨rfl, { m with dg := g3 }, rfl, rfl, rfl, I.out, T3.of_touch B02, fun k hk => (HG.out k hk).imp id fun h => Nat.le_trans B02.size h⟩

/-- add, and what waited lasts. -/
def lastS (S : SegD) (e : EntD) : SegD := if addE S e = 0 then { addS S e with D := ⟨(addS S e).D.room, (addS S e).D.lines, (addS S e).D.lines.length⟩ } else S

set_option maxHeartbeats 4000000 in
set_option maxRecDepth 100000 in
theorem addLasting_calls (B : Nat) (m : SegM) (S : SegD) (e : EntD) (v : Value) (w : World) (hd : IsSeg w B m S) (hB : B ≤ w.heap.size) (hv : IsEnt w m.c v e) (hm : mayS S e = true) (he : EntW e) (hp : Pow w) :
    Calls Tryz.prog 58 #[.pointer (some ⟨m.p, 0, none⟩), v] w fun x w' => x = .returned (.int .i64 (addE S e)) ∧ ∃ m', m'.p = m.p ∧ m'.dp = m.dp ∧ m'.c = m.c ∧ IsSeg w' B m' (lastS S e) ∧ Touch m.on w w' ∧ (∀ k, m'.on k → m.on k ∨ w.heap.size ≤ k) := by
  obtain ⟨vd, rfl, hr⟩ := id hv
  obtain ⟨a, cap, rfl⟩ := ownsRow_slice hr
  have HB := box_below w (.cells #[.string ⟨#[e.sign]⟩, .int .i64 e.n, .int .i64 e.r.site, .int .i64 e.r.seq, .slice a e.r.dep.length cap, .string e.r.key, .string e.r.val] 84)
  obtain ⟨W1, hW1⟩ : ∃ W1, w.alloc (.cells #[.string ⟨#[e.sign]⟩, .int .i64 e.n, .int .i64 e.r.site, .int .i64 e.r.seq, .slice a e.r.dep.length cap, .string e.r.key, .string e.r.val] 84) = W1 := ⟨_, rfl⟩
  rw [hW1] at HB
  have ua := hide (add_calls B m S e _ W1 (hd.keep HB) (by have := HB.size; omega) (hv.below HB) hm he (hp.below HB))
  obtain ⟨E, hE⟩ : ∃ E, addE S e = E := ⟨_, rfl⟩
  obtain ⟨S2, hS2⟩ : ∃ S2, lastS S e = S2 := ⟨_, rfl⟩
  obtain ⟨S1, hS1⟩ : ∃ S1, addS S e = S1 := ⟨_, rfl⟩
  have HS : Hid (S2 = if E = 0 then { S1 with D := ⟨S1.D.room, S1.D.lines, S1.D.lines.length⟩ } else S) := by rw [← hS2, ← hS1, ← hE]; rfl
  have HN : Hid (¬ E = 0 → S1 = S) := fun h => by rw [← hS1]; unfold addS; rw [hE, if_neg h]
  rw [hE, hS1] at ua
  rw [hE, hS2]
  have HW := hide hW1
  clear hd hE hS2 hS1 hW1 hp hv hr
  by_cases hE : E = 0
  · have e2 := HS.out
    rw [if_pos hE] at e2
    subst e2
    subst hE
    go_enter Tryz.func58, Tryz.ntmps58
    go_wp2_with fail
    rw [HW.out]
    refine ua.out.mono ?_
    rintro x w2 ⟨rfl, m2, hp2, hdp2, hc2, I2, T2, G2⟩
    obtain ⟨_, _, -, -, hpw, -, -⟩ := I2.val
    have c0 := (cells4 hpw).1
    unfold ptrV at c0
    rw [hp2, hdp2] at c0
    have us := hide (diskSync_calls B m2.dp m2.dg S1.D w2 I2.disk)
    rw [hdp2] at us
    have Hdp := hide hdp2
    have Hp2 := hide hp2
    have I := hide I2
    have HG := hide G2
    clear hpw I2 G2 ua hp2 hdp2
    go_wp2_with fail
    refine us.out.mono ?_
    rintro x w3 ⟨rfl, d3, t3⟩
    rw [← Hdp.out] at d3 t3
    obtain ⟨I3, T3, G3⟩ := I.out.disk_goes d3 t3 I.out.ok.few (fun k hk => .inl hk)
    have hsz := HB.size
    have hs2 := T2.size
    go_wp2_with fail
    go_ret
    refine ⟨rfl, { m2 with dg := m2.dg }, Hp2.out, Hdp.out, hc2, I3, (T2.next T3 fun i hi h => (HG.out i h).resolve_right (by omega)).of_touch HB, fun k hk => ?_⟩
    rcases G3 k hk with h | h
    · rcases HG.out k h with h1 | h1
      · exact .inl h1
      · exact .inr (by omega)
    · exact .inr (by omega)
  · have e2 := HS.out
    rw [if_neg hE] at e2
    have e3 := HN.out hE
    clear HN HS
    subst e3
    subst e2
    have hE' : (E == 0) = false := by simp [hE]
    go_enter Tryz.func58, Tryz.ntmps58
    go_wp2_with fail
    rw [HW.out]
    refine ua.out.mono ?_
    rintro x w2 ⟨rfl, m2, hp2, hdp2, hc2, I2, T2, G2⟩
    have I := hide I2
    have HG := hide G2
    clear I2 G2 ua
    go_wp2_with fail
    go_ret
    exact ⟨rfl, m2, hp2, hdp2, hc2, I.out, T2.of_touch HB, fun k hk => (HG.out k hk).imp id fun h => Nat.le_trans HB.size h⟩

end Go.Proofs.YtncmocmmkbmmjaaGreatDoor

/- seg's end, Sealed, Disk, Lasts, Get. Own work; no statement. -/
set_option linter.unusedSimpArgs false
set_option linter.unusedVariables false
namespace Go.Proofs.YtncmocmmkbmmjaaGreatDoor
open Go.RowKit Go.Shelf Go.Sort

/-- The position behind the last record; the trim, if there is none. -/
def endS (S : SegD) : Int := match S.slots.getLast? with
  | none => S.trim
  | some x => x.pos + 1

set_option maxHeartbeats 2000000 in
theorem segSealed_calls (B : Nat) (m : SegM) (S : SegD) (w : World) (hd : IsSeg w B m S) :
    Calls Tryz.prog 25 #[.pointer (some ⟨m.p, 0, none⟩)] w fun e w' => e = .returned (.int .i64 S.sealed) ∧ w' = w := by
  obtain ⟨v, qs, -, -, hp, -, -⟩ := hd.val
  obtain ⟨-, c1, -, -, -, -, -, -⟩ := cells4 hp
  clear hp hd
  go_enter Tryz.func25, Tryz.ntmps25
  go_wp2
  go_ret
  exact ⟨rfl, rfl⟩

set_option maxHeartbeats 2000000 in
theorem segDisk_calls (B : Nat) (m : SegM) (S : SegD) (w : World) (hd : IsSeg w B m S) :
    Calls Tryz.prog 32 #[.pointer (some ⟨m.p, 0, none⟩)] w fun e w' => e = .returned (.pointer (some ⟨m.dp, 0, none⟩)) ∧ w' = w := by
  obtain ⟨v, qs, -, -, hp, -, -⟩ := hd.val
  obtain ⟨c0, -, -, -, -, -, -, -⟩ := cells4 hp
  unfold ptrV at c0
  clear hp hd
  go_enter Tryz.func32, Tryz.ntmps32
  go_wp2
  go_ret
  exact ⟨rfl, rfl⟩

/-- The k-th of a segment's slots, for a walk. -/
theorem IsSeg.slot {w : World} {B : Nat} {m : SegM} {S : SegD} (h : IsSeg w B m S) {k : Nat} (hk : k < S.slots.length) : ∃ a cap q, w.cell? ⟨m.p, 3, none⟩ = some (.slice (some ⟨a, 0, none⟩) S.slots.length cap) ∧ w.cell? ⟨a, k, none⟩ = some (.pointer (some ⟨q, 0, none⟩)) ∧ SlotAt w m.c q S.slots[k] := by
  obtain ⟨v, qs, hv, hl, hp, hr, hs⟩ := h.val
  have c3 := (cells4 hp).2.2.2.1
  rcases hr.2 with ⟨rfl, h0⟩ | ⟨g, cap, cur, rfl, hb, hg, hnc, hcm, hcs, ht⟩
  · omega
  · refine ⟨g, cap, qs[k], by rw [c3, hl], ?_, hs k (by omega) hk⟩
    rw [hr.cellAt k (by omega)]
    simp [ptrV, show k < qs.length by omega]

set_option maxHeartbeats 2000000 in
theorem end_calls (B : Nat) (m : SegM) (S : SegD) (w : World) (hd : IsSeg w B m S) :
    Calls Tryz.prog 59 #[.pointer (some ⟨m.p, 0, none⟩)] w fun e w' => e = .returned (.int .i64 (endS S)) ∧ ∃ n, w' = w.drewN n := by
  have hlen := hd.disk.len
  have hfew := hd.ok.few
  by_cases h0 : S.slots = []
  · have e : endS S = S.trim := by unfold endS; rw [h0]; rfl
    rw [e]
    obtain ⟨v, qs, -, hl, hp, hr, -⟩ := hd.val
    obtain ⟨-, -, c2, c3, -, -, -, -⟩ := cells4 hp
    obtain ⟨a, cap, rfl⟩ := ownsRow_slice hr
    have hq : qs.length = 0 := by rw [hl, h0]; rfl
    rw [hq] at c3
    clear hp hd hr hl hq
    go_enter Tryz.func59, Tryz.ntmps59
    go_wp2
    go_ret
    exact ⟨rfl, 0, rfl⟩
  · have hpos : 0 < S.slots.length := List.length_pos_iff.2 h0
    obtain ⟨a, cap, q, c3, cq, hs⟩ := hd.slot (k := S.slots.length - 1) (by omega)
    have e : endS S = S.slots[S.slots.length - 1].pos + 1 := by
      unfold endS
      rw [List.getLast?_eq_getElem?, List.getElem?_eq_getElem (by omega)]
    rw [e]
    obtain ⟨vd, -, hq, -⟩ := hs
    obtain ⟨b1, b2, -, -, -⟩ := hd.ok.each _ (List.getElem_mem (show S.slots.length - 1 < S.slots.length by omega))
    have cp := (cells7 hq).1
    generalize S.slots[S.slots.length - 1].pos = pos at *
    obtain ⟨n, hn⟩ : ∃ n, S.slots.length = n := ⟨_, rfl⟩
    rw [hn] at c3 cq hpos
    have hn1 : n ≤ 1048576 := by omega
    have hidx : (n : Int) - 1 = ((n - 1 : Nat) : Int) := by omega
    have hne : ¬ (n : Int) = 0 := by omega
    clear hq hd hn h0 e hlen hfew
    go_enter Tryz.func59, Tryz.ntmps59
    go_wp2
    go_quiet (fail)
    go_wp2
    go_ret
    exact ⟨rfl, _, rfl⟩

end Go.Proofs.YtncmocmmkbmmjaaGreatDoor

/- seg's Get. Own work; no statement. -/
set_option linter.unusedSimpArgs false
set_option linter.unusedVariables false
namespace Go.Proofs.YtncmocmmkbmmjaaGreatDoor
open Go.RowKit Go.Shelf Go.Sort

theorem isAt_slot (S : SegD) (pos : Int) : isAt (poss S) pos = match S.slots[belowN (poss S) pos]? with
  | none => false
  | some x => decide (x.pos = pos) := by
  unfold isAt
  generalize belowN (poss S) pos = i
  rw [poss_length]
  by_cases h : i < S.slots.length
  · rw [List.getElem?_eq_getElem h, poss_get S i h, decide_eq_true h]
    rfl
  · rw [List.getElem?_eq_none (by omega), decide_eq_false h]
    rfl

/-- What Get tells. -/
def getS (S : SegD) (pos : Int) : RecD × Int := if pos < S.trim then (zeroR, 8) else match S.slots[belowN (poss S) pos]? with
  | none => (zeroR, 9)
  | some x => if x.pos = pos then (x.r, 0) else (zeroR, 9)

theorem getS_not {S : SegD} {pos : Int} (h : ¬ pos < S.trim) (h1 : isAt (poss S) pos = false) : getS S pos = (zeroR, 9) := by
  rw [isAt_slot] at h1
  unfold getS
  rw [if_neg h]
  split at h1
  · rfl
  · rw [if_neg (by simpa using h1)]

set_option maxHeartbeats 4000000 in
set_option maxRecDepth 100000 in
theorem segGet_calls (B : Nat) (m : SegM) (S : SegD) (pos : Int) (w : World) (hd : IsSeg w B m S) :
    Calls Tryz.prog 29 #[.pointer (some ⟨m.p, 0, none⟩), .int .i64 pos] w fun e w' => ∃ v, e = .returned (.tuple #[v, .int .i64 (getS S pos).2]) ∧ OwnRec w.heap.size w' v (getS S pos).1 ∧ Below w.heap.size w w' := by
  have HB := box_below w (.cells #[.int .i64 0, .int .i64 0, .slice none 0 0, .string ⟨#[]⟩, .string ⟨#[]⟩] 57)
  obtain ⟨W1, hW1⟩ : ∃ W1, w.alloc (.cells #[.int .i64 0, .int .i64 0, .slice none 0 0, .string ⟨#[]⟩, .string ⟨#[]⟩] 57) = W1 := ⟨_, rfl⟩
  have x0 : W1.heap[w.heap.size]? = some (.cells #[.int .i64 0, .int .i64 0, .slice none 0 0, .string ⟨#[]⟩, .string ⟨#[]⟩] 57 (0, 0)) := by rw [← hW1]; exact World.alloc_heap_new w _
  rw [hW1] at HB
  have hd1 := hd.keep HB
  have u1 := hide (find_calls B m S pos W1 hd1)
  obtain ⟨vs, qs, hvs, hl, hp, hr1, hsl⟩ := hd1.val
  obtain ⟨c0, c1, c2, c3, f0, f1, f2, f3⟩ := cells4 hp
  obtain ⟨k0, k1, k2, k3, k4, g0, g1, g2, g3, g4⟩ := cells5 x0
  have b3 := hd.ok.trim0
  have b4 := hd.ok.trim1
  have hlt := hd.lt
  obtain ⟨_, _, -, -, hpw, -, -⟩ := hd.val
  have cw := (cells4 hpw).2.2.1
  clear hpw
  have HW := hide hW1
  have X0 := hide x0
  have Hd1 := hide hd1
  clear hd hp hr1 hl hsl hvs x0 hW1 f0 f1 f2 f3 c0 c1
  by_cases ht : pos < S.trim
  · rw [show getS S pos = (zeroR, 8) by unfold getS; rw [if_pos ht]]
    clear hd1 c3 u1
    go_enter Tryz.func29, Tryz.ntmps29
    go_wp2_with fail
    rw [HW.out]
    refine bodyPost_ret (v := .tuple #[.agg #[.int .i64 0, .int .i64 0, .slice none 0 0, .string ⟨#[]⟩, .string ⟨#[]⟩], .int .i64 8]) (by simp [results, Tryz.f29, go_sem, k0, k1, k2, k3, k4]) rfl ⟨_, rfl, zero_own _ _, HB⟩
  · by_cases hat : isAt (poss S) pos = true
    · have hsl := isAt_slot S pos
      rw [hat] at hsl u1
      obtain ⟨x, hx, hxp⟩ : ∃ x, S.slots[belowN (poss S) pos]? = some x ∧ x.pos = pos := by
        split at hsl
        · cases hsl
        · rename_i x e
          exact ⟨x, e, by simpa using hsl.symm⟩
      have hi : belowN (poss S) pos < S.slots.length := (List.getElem?_eq_some_iff.1 hx).1
      have hxe : S.slots[belowN (poss S) pos] = x := (List.getElem?_eq_some_iff.1 hx).2
      rw [show getS S pos = (x.r, 0) by unfold getS; rw [if_neg ht, hx]; dsimp only; rw [if_pos hxp]]
      obtain ⟨a, cap, q, d3, cq, hs⟩ := hd1.slot hi
      rw [hxe] at hs
      obtain ⟨-, -, -, -, hg⟩ := hd1.ok.each x (List.mem_of_getElem? hx)
      have hdl : x.r.dep.length ≤ 17592186044416 := by have := hg.b.len; omega
      obtain ⟨vd, -, hq, hrow⟩ := hs
      obtain ⟨e0, e1, e2, e3, e4, e5, e6, -, -, -, -, -, -, -⟩ := cells7 hq
      have hfew := hd1.ok.few
      have hlen := hd1.disk.len
      have hiN : (belowN (poss S) pos : Int) < (S.slots.length : Int) := by omega
      have hN : S.slots.length ≤ 1048576 := by omega
      clear hfew hlen hx hxe hsl hi hd1 c3 hg
      generalize belowN (poss S) pos = i at *
      generalize S.slots.length = N at *
      obtain ⟨da, dcap, rfl⟩ := ownsRow_slice hrow
      have C := hide (fun W (h : Below W1.heap.size W1 W) => segCopied_calls (.agg #[.int .i64 x.r.site, .int .i64 x.r.seq, .slice da x.r.dep.length dcap, .string x.r.key, .string x.r.val]) x.r W ⟨da, dcap, rfl, (IsNums.of_row hrow).below h⟩ hdl)
      clear hq hrow
      go_enter Tryz.func29, Tryz.ntmps29
      go_wp2_with (go_at_call 61; rw [HW.out]; refine u1.out.mono ?_; rintro e w' ⟨rfl, nq, hw'⟩; subst hw')
      refine (C.out _ (drewsB W1 nq)).mono ?_
      rintro e w2 ⟨v2, rfl, ⟨vd2, rfl, hown⟩, hb2⟩
      obtain ⟨a', cap', rfl⟩ := ownsRow_slice hown
      have Z2 := keepB (show (W1.drewN nq).heap[w.heap.size]? = _ from X0.out) hb2
      have B2 := HB.trans (((drewsB W1 nq).trans hb2).mono HB.size)
      have hsz : w.heap.size < (W1.drewN nq).heap.size := ltAt X0.out
      obtain ⟨z0, z1, z2, z3, z4, y0, y1, y2, y3, y4⟩ := cells5 Z2
      have Hown := hide hown
      have HZ2 := hide Z2
      clear C c2 k0 k1 k2 k3 k4 g0 g1 g2 g3 g4 hb2 Z2 hown d3 cq e0 e1 e2 e3 e4 e5 e6 cw
      go_wp2_with fail
      obtain ⟨W2, hW2⟩ : ∃ W2, put5 w2 w.heap.size (.int .i64 x.r.site) (.int .i64 x.r.seq) (.slice a' x.r.dep.length cap') (.string x.r.key) (.string x.r.val) = W2 := ⟨_, rfl⟩
      have e2 := put5_heap HZ2.out (.int .i64 x.r.site) (.int .i64 x.r.seq) (.slice a' x.r.dep.length cap') (.string x.r.key) (.string x.r.val)
      have hB2 := put5_below B2 (Nat.le_refl _) (.int .i64 x.r.site) (.int .i64 x.r.seq) (.slice a' x.r.dep.length cap') (.string x.r.key) (.string x.r.val)
      have hoth : ∀ k, k ≠ w.heap.size → W2.heap[k]? = w2.heap[k]? := fun k hk => by rw [← hW2]; exact put5_other k hk _ _ _ _ _
      rw [hW2] at e2 hB2
      unfold put5 at hW2
      rw [hW2]
      clear hW2 z0 z1 z2 z3 z4 y0 y1 y2 y3 y4
      obtain ⟨k0, k1, k2, k3, k4, -, -, -, -, -⟩ := cells5 e2
      refine bodyPost_ret (v := .tuple #[.agg #[.int .i64 x.r.site, .int .i64 x.r.seq, .slice a' x.r.dep.length cap', .string x.r.key, .string x.r.val], .int .i64 0]) (by simp [results, Tryz.f29, go_sem, k0, k1, k2, k3, k4]) rfl ⟨_, rfl, ⟨_, rfl, ?_⟩, hB2⟩
      exact ownsRow_low (ownsRow_of_heap Hown.out fun k hk => hoth k (by have := (Hown.out.lt k hk).1; omega)) (by omega)
    · rw [Bool.not_eq_true] at hat
      rw [getS_not ht hat]
      rw [hat] at u1
      clear hd1 c3
      go_enter Tryz.func29, Tryz.ntmps29
      go_wp2_with (go_at_call 61; rw [HW.out]; refine u1.out.mono ?_; rintro e w' ⟨rfl, nq, hw'⟩; subst hw')
      obtain ⟨W2, hW2, j0, j1, j2, j3, j4, hB2⟩ := parse_zero (show (W1.drewN nq).heap[w.heap.size]? = _ from X0.out) (HB.trans ((drewsB W1 nq).mono HB.size)) (Nat.le_refl _)
      unfold put5 at hW2
      rw [hW2]
      refine bodyPost_ret (v := .tuple #[.agg #[.int .i64 0, .int .i64 0, .slice none 0 0, .string ⟨#[]⟩, .string ⟨#[]⟩], .int .i64 9]) (by simp [results, Tryz.f29, go_sem, j0, j1, j2, j3, j4]) rfl ⟨_, rfl, zero_own _ _, hB2⟩

end Go.Proofs.YtncmocmmkbmmjaaGreatDoor
