/- Own work: the parts S9, S10, S11, S13, S14, S15, S16 of the proof, laid together. -/
import Derived.Test.YtjbjjfndkpcciaaGreatDoorPartLogStripes8
/- seg's apply: seals, cuts, trims; all of it. Own work; no statement. -/
set_option linter.unusedSimpArgs false
set_option linter.unusedVariables false
namespace Go.Proofs.YtjbjjfndkpcciaaGreatDoor
open Go.RowKit Go.Shelf Go.Sort

set_option maxHeartbeats 4000000 in
set_option maxRecDepth 100000 in
theorem apply_seal (B : Nat) (m : SegM) (S : SegD) (n : Int) (r : RecD) (v : Value) (place : Nat) (w : World) (hd : IsSeg w B m S) (hB : B ≤ w.heap.size) (hv : IsEnt w m.c v ⟨115, n, r⟩) (h0 : S.sealed < n) (h1 : n ≤ 2147483647) :
    Calls Tryz.prog 150 #[.pointer (some ⟨m.p, 0, none⟩), v, .int .i64 (place : Int)] w fun x w' => x = .returned (.tuple #[]) ∧ IsSeg w' B m ({ S with sealed := n }) ∧ Touch m.on w w' := by
  obtain ⟨vd, rfl, hr⟩ := hv
  obtain ⟨a, cap, rfl⟩ := ownsRow_slice hr
  dsimp only at *
  have HB := box_below w (.cells #[.string ⟨#[115]⟩, .int .i64 n, .int .i64 r.site, .int .i64 r.seq, .slice a r.dep.length cap, .string r.key, .string r.val] 170)
  obtain ⟨W1, hW1⟩ : ∃ W1, w.alloc (.cells #[.string ⟨#[115]⟩, .int .i64 n, .int .i64 r.site, .int .i64 r.seq, .slice a r.dep.length cap, .string r.key, .string r.val] 170) = W1 := ⟨_, rfl⟩
  have x0 : W1.heap[w.heap.size]? = some (.cells #[.string ⟨#[115]⟩, .int .i64 n, .int .i64 r.site, .int .i64 r.seq, .slice a r.dep.length cap, .string r.key, .string r.val] 170 (0, 0)) := by rw [← hW1]; exact World.alloc_heap_new w _
  rw [hW1] at HB
  have hd1 := hd.keep HB
  have u1 := hide (find_calls B m S n W1 hd1)
  obtain ⟨vs, qs, hvs, hl, hp, hr1, hsl⟩ := hd1.val
  obtain ⟨c0, c1, c2, c3, f0, f1, f2, f3⟩ := cells4 hp
  obtain ⟨k0, k1, -, -, -, -, -, -, -, -, -, -, -, -⟩ := cells7 x0
  obtain ⟨sa, caps, rfl⟩ := ownsRow_slice hr1
  have hile : belowN (poss S) n ≤ qs.length := by have := belowN_le (poss S) n; rw [poss_length, ← hl] at this; exact this
  have HW := hide hW1
  have HL := hide hl
  have Hd := hide hd
  have Hd1 := hide hd1
  have Hr1 := hide hr1
  have Hsl := hide hsl
  have Hvs := hide hvs
  have Hp := hide hp
  have hlen := hd.disk.len
  have hfew := hd.ok.few
  have X0 := hide x0
  clear hd hd1 hp hr hr1 hl x0 hW1 hsl hvs
  obtain ⟨q, hq⟩ : ∃ q, isAt (poss S) n = q := ⟨_, rfl⟩
  obtain ⟨i, hi⟩ : ∃ i, belowN (poss S) n = i := ⟨_, rfl⟩
  rw [hi] at hile u1
  rw [hq] at u1
  have Hi := hide hi
  clear hi hq
  unfold ptrV at c0
  go_enter Tryz.func150, Tryz.ntmps150
  go_wp2_with (go_at_call 132; rw [HW.out]; refine u1.out.mono ?_; rintro e w' ⟨rfl, nq, hw'⟩; subst hw')
  go_end0
  have I := IsSeg.nums (S' := { S with sealed := n }) (W := (W1.drewN nq).setCell ⟨m.p, 1, none⟩ (.int .i64 n)) (Hd1.out.drews nq) (seal_ok Hd.out.ok h0 h1) rfl rfl (touch_set (S := fun k => k = m.p) _ _ _ rfl) (fun v hv => by simpa using setAt (j := 1) hv _)
  exact ⟨rfl, I.1, (I.2.of_touch (drewsB W1 nq)).of_touch HB⟩

set_option maxHeartbeats 4000000 in
set_option maxRecDepth 100000 in
theorem apply_cut (B : Nat) (m : SegM) (S : SegD) (n : Int) (r : RecD) (v : Value) (place : Nat) (w : World) (hd : IsSeg w B m S) (hB : B ≤ w.heap.size) (hv : IsEnt w m.c v ⟨99, n, r⟩)  :
    Calls Tryz.prog 150 #[.pointer (some ⟨m.p, 0, none⟩), v, .int .i64 (place : Int)] w fun x w' => x = .returned (.tuple #[]) ∧ IsSeg w' B m ({ S with slots := S.slots.take (belowN (poss S) n) }) ∧ Touch m.on w w' := by
  obtain ⟨vd, rfl, hr⟩ := hv
  obtain ⟨a, cap, rfl⟩ := ownsRow_slice hr
  dsimp only at *
  have HB := box_below w (.cells #[.string ⟨#[99]⟩, .int .i64 n, .int .i64 r.site, .int .i64 r.seq, .slice a r.dep.length cap, .string r.key, .string r.val] 170)
  obtain ⟨W1, hW1⟩ : ∃ W1, w.alloc (.cells #[.string ⟨#[99]⟩, .int .i64 n, .int .i64 r.site, .int .i64 r.seq, .slice a r.dep.length cap, .string r.key, .string r.val] 170) = W1 := ⟨_, rfl⟩
  have x0 : W1.heap[w.heap.size]? = some (.cells #[.string ⟨#[99]⟩, .int .i64 n, .int .i64 r.site, .int .i64 r.seq, .slice a r.dep.length cap, .string r.key, .string r.val] 170 (0, 0)) := by rw [← hW1]; exact World.alloc_heap_new w _
  rw [hW1] at HB
  have hd1 := hd.keep HB
  have u1 := hide (find_calls B m S n W1 hd1)
  obtain ⟨vs, qs, hvs, hl, hp, hr1, hsl⟩ := hd1.val
  obtain ⟨c0, c1, c2, c3, f0, f1, f2, f3⟩ := cells4 hp
  obtain ⟨k0, k1, -, -, -, -, -, -, -, -, -, -, -, -⟩ := cells7 x0
  obtain ⟨sa, caps, rfl⟩ := ownsRow_slice hr1
  have hile : belowN (poss S) n ≤ qs.length := by have := belowN_le (poss S) n; rw [poss_length, ← hl] at this; exact this
  have HW := hide hW1
  have HL := hide hl
  have Hd := hide hd
  have Hd1 := hide hd1
  have Hr1 := hide hr1
  have Hsl := hide hsl
  have Hvs := hide hvs
  have Hp := hide hp
  have hlen := hd.disk.len
  have hfew := hd.ok.few
  have X0 := hide x0
  clear hd hd1 hp hr hr1 hl x0 hW1 hsl hvs
  obtain ⟨q, hq⟩ : ∃ q, isAt (poss S) n = q := ⟨_, rfl⟩
  obtain ⟨i, hi⟩ : ∃ i, belowN (poss S) n = i := ⟨_, rfl⟩
  rw [hi] at hile u1
  rw [hq] at u1
  have Hi := hide hi
  clear hi hq
  unfold ptrV at c0
  go_enter Tryz.func150, Tryz.ntmps150
  go_wp2_with (go_at_call 132; rw [HW.out]; refine u1.out.mono ?_; rintro e w' ⟨rfl, nq, hw'⟩; subst hw')
  obtain ⟨W2, hW2⟩ : ∃ W2, (W1.drewN nq).drew = W2 := ⟨_, rfl⟩
  have B2 : Below W1.heap.size W1 W2 := by rw [← hW2]; exact ⟨rfl, rfl, rfl, Nat.le_refl _, fun _ _ => rfl⟩
  have d3 : W2.cell? ⟨m.p, 3, none⟩ = some (.slice sa qs.length caps) := by rw [← hW2]; exact c3
  refine region_headT 12 (fun w2 => w2.cell? ⟨m.p, 3, none⟩ = some (.slice sa qs.length caps)) (by kernel_rfl) (by decide) ?_
  rw [hW2]
  clear hW2 c0 c1 c2 c3 f0 f1 f2 f3
  refine HeadT.take 0 (.pointer (some ⟨m.p, 0, none⟩)) rfl (by kernel_rfl) (.inl ⟨rfl, fun w2 s0 => by go_simp⟩) d3 ?_
  refine HeadT.take 1 (.pointer (some ⟨m.p, 0, none⟩)) rfl (by kernel_rfl) (.inl ⟨rfl, fun w2 s0 => by go_simp⟩) d3 ?_
  refine HeadT.take 2 (.pointer (some ⟨m.p, 0, none⟩)) rfl (by kernel_rfl) (.inl ⟨rfl, fun w2 s0 => by go_simp⟩) d3 ?_
  refine HeadT.take 3 (.pointer (some ⟨m.p, 3, none⟩)) rfl (by kernel_rfl) (.inl ⟨rfl, fun w2 s0 => by go_simp⟩) d3 ?_
  refine HeadT.take 4 (.slice sa qs.length caps) rfl (by kernel_rfl) (.inl ⟨rfl, fun w2 s0 => by go_simp⟩) d3 ?_
  refine HeadT.take 5 (.int .i64 (i : Int)) rfl (by kernel_rfl) (.inl ⟨rfl, fun w2 s0 => by go_simp⟩) d3 ?_
  refine HeadT.take 6 (.pointer (some ⟨m.p, 0, none⟩)) rfl (by kernel_rfl) (.inl ⟨rfl, fun w2 s0 => by go_simp⟩) d3 ?_
  refine HeadT.take 7 (.pointer (some ⟨m.p, 0, none⟩)) rfl (by kernel_rfl) (.inl ⟨rfl, fun w2 s0 => by go_simp⟩) d3 ?_
  refine HeadT.take 8 (.pointer (some ⟨m.p, 3, none⟩)) rfl (by kernel_rfl) (.inl ⟨rfl, fun w2 s0 => by go_simp⟩) d3 ?_
  refine HeadT.take 9 (.slice sa qs.length caps) rfl (by kernel_rfl) (.inl ⟨rfl, fun w2 s0 => by go_simp⟩) d3 ?_
  refine HeadT.take 10 (.int .i64 (qs.length : Int)) rfl (by kernel_rfl) (.inl ⟨rfl, fun w2 s0 => by go_simp⟩) d3 ?_
  refine HeadT.only 11 (by kernel_rfl) ?_
  have r2 : W2.ownsRow B 177 1 (.slice sa qs.length caps) qs.length (qs.map ptrV) := own_below Hr1.out B2
  refine wpOp_call rfl rfl 196 #[.slice sa qs.length caps, .int .i64 (i : Int), .int .i64 (qs.length : Int)] (by go_simp) (delSlots_calls B i qs.length caps sa qs W2 r2 (by omega) (by omega)) ?_
  rintro e w5 ⟨rfl, hown, ht5⟩
  have hqs : qs.take i ++ qs.drop qs.length = qs.take i := by simp
  rw [hqs] at hown ⊢
  have hSl := HL.out
  have B02 : Below w.heap.size w W2 := HB.trans (B2.mono HB.size)
  have d2 : IsSeg W2 B m S := Hd.out.keep B02
  have p2 : W2.heap[m.p]? = some (.cells #[ptrV m.dp, .int .i64 S.sealed, .int .i64 S.trim, .slice sa qs.length caps] 144 (0, 0)) := keepB Hp.out B2
  have sl : ∀ j (h1 : j < (qs.take i).length) (h2 : j < (S.slots.take i).length), SlotAt W2 m.c (qs.take i)[j] (S.slots.take i)[j] := by
    intro j h1 h2
    simp only [List.getElem_take]
    exact (Hsl.out j (by simp at h1; omega) (by simp at h2; omega)).below B2
  obtain ⟨I6, T6, G6, p5⟩ := IsSeg.row d2 Hvs.out (by simp [hSl]) p2 sl hown ht5 (fun k hk => .inl (by cases sa <;> exact hk)) (take_ok Hd.out.ok i)
  have d5 := (cells4 p5).2.2.2.1
  have f5 := frozenAt p5 3
  have F := hide (show IsSeg (w5.setCell ⟨m.p, 3, none⟩ (.slice sa (qs.take i).length caps)) B m { S with slots := S.slots.take (belowN (poss S) n) } ∧ Touch m.on w (w5.setCell ⟨m.p, 3, none⟩ (.slice sa (qs.take i).length caps)) from by
    rw [Hi.out]
    have e : ({ m with sg := (Value.slice sa (qs.take i).length caps).ownBlock } : SegM) = m := by
      rw [show (Value.slice sa (qs.take i).length caps).ownBlock = m.sg by rw [← Hvs.out]; cases sa <;> rfl]
    rw [e] at I6
    exact ⟨I6, T6.of_touch B02⟩)
  refine ⟨_, rfl, d5, ?_⟩
  refine HeadT.tail rfl (by kernel_rfl) ?_
  clear I6 T6 G6 p5 hown ht5 sl p2 d2 B02 r2 d3 B2 hSl hqs hile
  generalize (qs.take i).length = ln at *
  simp only [List.drop_succ_cons, List.drop_zero]
  go_wp2_with fail
  simp only [noPanic]
  go_wp2_with fail
  go_end0
  exact ⟨rfl, F.out⟩

set_option maxHeartbeats 4000000 in
set_option maxRecDepth 100000 in
theorem apply_trim (B : Nat) (m : SegM) (S : SegD) (n : Int) (r : RecD) (v : Value) (place : Nat) (w : World) (hd : IsSeg w B m S) (hB : B ≤ w.heap.size) (hv : IsEnt w m.c v ⟨116, n, r⟩) (h0 : S.trim < n) (h1 : n ≤ 2147483647) :
    Calls Tryz.prog 150 #[.pointer (some ⟨m.p, 0, none⟩), v, .int .i64 (place : Int)] w fun x w' => x = .returned (.tuple #[]) ∧ IsSeg w' B m ({ S with slots := S.slots.drop (belowN (poss S) n), trim := n }) ∧ Touch m.on w w' := by
  obtain ⟨vd, rfl, hr⟩ := hv
  obtain ⟨a, cap, rfl⟩ := ownsRow_slice hr
  dsimp only at *
  have HB := box_below w (.cells #[.string ⟨#[116]⟩, .int .i64 n, .int .i64 r.site, .int .i64 r.seq, .slice a r.dep.length cap, .string r.key, .string r.val] 170)
  obtain ⟨W1, hW1⟩ : ∃ W1, w.alloc (.cells #[.string ⟨#[116]⟩, .int .i64 n, .int .i64 r.site, .int .i64 r.seq, .slice a r.dep.length cap, .string r.key, .string r.val] 170) = W1 := ⟨_, rfl⟩
  have x0 : W1.heap[w.heap.size]? = some (.cells #[.string ⟨#[116]⟩, .int .i64 n, .int .i64 r.site, .int .i64 r.seq, .slice a r.dep.length cap, .string r.key, .string r.val] 170 (0, 0)) := by rw [← hW1]; exact World.alloc_heap_new w _
  rw [hW1] at HB
  have hd1 := hd.keep HB
  have u1 := hide (find_calls B m S n W1 hd1)
  obtain ⟨vs, qs, hvs, hl, hp, hr1, hsl⟩ := hd1.val
  obtain ⟨c0, c1, c2, c3, f0, f1, f2, f3⟩ := cells4 hp
  obtain ⟨k0, k1, -, -, -, -, -, -, -, -, -, -, -, -⟩ := cells7 x0
  obtain ⟨sa, caps, rfl⟩ := ownsRow_slice hr1
  have hile : belowN (poss S) n ≤ qs.length := by have := belowN_le (poss S) n; rw [poss_length, ← hl] at this; exact this
  have HW := hide hW1
  have HL := hide hl
  have Hd := hide hd
  have Hd1 := hide hd1
  have Hr1 := hide hr1
  have Hsl := hide hsl
  have Hvs := hide hvs
  have Hp := hide hp
  have hlen := hd.disk.len
  have hfew := hd.ok.few
  have X0 := hide x0
  clear hd hd1 hp hr hr1 hl x0 hW1 hsl hvs
  obtain ⟨q, hq⟩ : ∃ q, isAt (poss S) n = q := ⟨_, rfl⟩
  obtain ⟨i, hi⟩ : ∃ i, belowN (poss S) n = i := ⟨_, rfl⟩
  rw [hi] at hile u1
  rw [hq] at u1
  have Hi := hide hi
  clear hi hq
  unfold ptrV at c0
  go_enter Tryz.func150, Tryz.ntmps150
  go_wp2_with (go_at_call 132; rw [HW.out]; refine u1.out.mono ?_; rintro e w' ⟨rfl, nq, hw'⟩; subst hw')
  have r2 : (W1.drewN nq).ownsRow B 177 1 (.slice sa qs.length caps) qs.length (qs.map ptrV) := own_below Hr1.out (drewsB W1 nq)
  have hC := delSlots_calls B 0 i caps sa qs (W1.drewN nq) r2 (Nat.zero_le _) hile
  refine hC.mono ?_
  rintro e w5 ⟨rfl, hown, ht5⟩
  have hqs : qs.take 0 ++ qs.drop i = qs.drop i := by simp
  rw [hqs] at hown ⊢
  have hSl := HL.out
  have B2 := drewsB W1 nq
  have B02 : Below w.heap.size w (W1.drewN nq) := HB.trans (B2.mono HB.size)
  have d2 : IsSeg (W1.drewN nq) B m S := Hd.out.keep B02
  have p2 : (W1.drewN nq).heap[m.p]? = some (.cells #[ptrV m.dp, .int .i64 S.sealed, .int .i64 S.trim, .slice sa qs.length caps] 144 (0, 0)) := keepB Hp.out B2
  have sl : ∀ j (h1 : j < (qs.drop i).length) (h2 : j < (S.slots.drop i).length), SlotAt (W1.drewN nq) m.c (qs.drop i)[j] (S.slots.drop i)[j] := by
    intro j h1 h2
    simp only [List.getElem_drop]
    exact (Hsl.out (i + j) (by simp at h1; omega) (by simp at h2; omega)).below B2
  obtain ⟨I6, T6, G6, p5⟩ := IsSeg.row d2 Hvs.out (by simp [hSl]) p2 sl hown ht5 (fun k hk => .inl (by cases sa <;> exact hk)) (drop_ok Hd.out.ok i)
  have hlt : m.p < w.heap.size := Hd.out.lt
  have k5 : w5.cell? ⟨w.heap.size, 1, none⟩ = some (.int .i64 n) := by
    have x2 : (Value.slice sa qs.length caps).ownBlock ≠ some w.heap.size := fun e => by
      rcases Hd.out.val with ⟨v0, qs0, hv0, -, hp0, hr0, -⟩
      have h1 := (hr0.lt w.heap.size (by rw [hv0, ← Hvs.out]; exact e)).2
      omega
    rw [World.cell?_of_block (w' := w5) (w := W1.drewN nq) (a := ⟨w.heap.size, 1, none⟩) (ht5.block _ (ltAt X0.out) x2)]
    exact k1
  have d5 := (cells4 p5).2.2.2.1
  have e5 := (cells4 p5).2.2.1
  have f5 := frozenAt p5 3
  have g5 := frozenAt p5 2
  have F := hide (show IsSeg ((w5.setCell ⟨m.p, 3, none⟩ (.slice sa (qs.drop i).length caps)).setCell ⟨m.p, 2, none⟩ (.int .i64 n)) B m { S with slots := S.slots.drop (belowN (poss S) n), trim := n } ∧ Touch m.on w ((w5.setCell ⟨m.p, 3, none⟩ (.slice sa (qs.drop i).length caps)).setCell ⟨m.p, 2, none⟩ (.int .i64 n)) from by
    have e : ({ m with sg := (Value.slice sa (qs.drop i).length caps).ownBlock } : SegM) = m := by
      rw [show (Value.slice sa (qs.drop i).length caps).ownBlock = m.sg by rw [← Hvs.out]; cases sa <;> rfl]
    rw [e] at I6
    have I7 := IsSeg.nums (S' := { S with slots := S.slots.drop (belowN (poss S) n), trim := n }) (W := (w5.setCell ⟨m.p, 3, none⟩ (.slice sa (qs.drop i).length caps)).setCell ⟨m.p, 2, none⟩ (.int .i64 n)) I6 (trim_ok Hd.out.ok h0 h1) rfl (by rw [Hi.out]) (touch_set (S := fun k => k = m.p) _ _ _ rfl) (fun v hv => by simpa using setAt (j := 2) hv _)
    exact ⟨I7.1, (T6.of_touch B02).trans I7.2⟩)
  have hne : ¬ w.heap.size = m.p := by omega
  have hne' : ¬ m.p = w.heap.size := by omega
  clear I6 T6 G6 p5 hown ht5 sl p2 d2 B02 r2 B2 hSl hqs hile hC c0 c1 c2 c3 f0 f1 f2 f3 k0 k1
  generalize (qs.drop i).length = ln at *
  go_wp2_with fail
  go_end0
  exact ⟨rfl, F.out⟩

/-- What entries there are. -/
def EntOk (S : SegD) (e : EntD) : Prop := (e.sign = 112 ∨ e.sign = 115 ∨ e.sign = 99 ∨ e.sign = 116) ∧ 0 ≤ e.n ∧ e.n ≤ 2147483647 ∧ (e.sign = 112 → GoodR e.r ∧ S.slots.length < S.D.lines.length)

theorem apply_calls (B : Nat) (m : SegM) (S : SegD) (e : EntD) (v : Value) (place : Nat) (w : World) (hd : IsSeg w B m S) (hB : B ≤ w.heap.size) (hv : IsEnt w m.c v e) (hm : mayS S e = true) (he : EntOk S e) (hp : place ≤ 1048575) :
    Calls Tryz.prog 150 #[.pointer (some ⟨m.p, 0, none⟩), v, .int .i64 (place : Int)] w fun x w' => x = .returned (.tuple #[]) ∧ ∃ sg', IsSeg w' B { m with sg := sg' } (applyS S e place) ∧ Touch m.on w w' ∧ (∀ k, sg' = some k → m.sg = some k ∨ w.heap.size ≤ k) := by
  obtain ⟨sign, n, r⟩ := e
  obtain ⟨hs, h0, h1, h2⟩ := he
  dsimp only at *
  unfold mayS at hm
  dsimp only at hm
  rcases hs with rfl | rfl | rfl | rfl
  · exact apply_put B m S n r v place w hd hB hv hm h1 (h2 rfl).1 hp (h2 rfl).2
  · rw [if_neg (by decide), if_pos rfl, decide_eq_true_eq] at hm
    refine (apply_seal B m S n r v place w hd hB hv hm h1).mono ?_
    rintro x w' ⟨rfl, h3, h4⟩
    refine ⟨rfl, m.sg, ?_, h4, fun k hk => .inl hk⟩
    unfold applyS
    dsimp only
    rw [if_neg (by decide), if_pos rfl]
    exact h3
  · refine (apply_cut B m S n r v place w hd hB hv).mono ?_
    rintro x w' ⟨rfl, h3, h4⟩
    refine ⟨rfl, m.sg, ?_, h4, fun k hk => .inl hk⟩
    unfold applyS
    dsimp only
    rw [if_neg (by decide), if_neg (by decide), if_pos rfl]
    exact h3
  · rw [if_neg (by decide), if_neg (by decide), if_pos rfl, decide_eq_true_eq] at hm
    refine (apply_trim B m S n r v place w hd hB hv hm h1).mono ?_
    rintro x w' ⟨rfl, h3, h4⟩
    refine ⟨rfl, m.sg, ?_, h4, fun k hk => .inl hk⟩
    unfold applyS
    dsimp only
    rw [if_neg (by decide), if_neg (by decide), if_neg (by decide), if_pos rfl]
    exact h3

end Go.Proofs.YtjbjjfndkpcciaaGreatDoor

/- seg's add, addLasting, end. Own work; no statement. -/
set_option linter.unusedSimpArgs false
set_option linter.unusedVariables false
namespace Go.Proofs.YtjbjjfndkpcciaaGreatDoor
open Go.RowKit Go.Shelf Go.Sort

/-- A segment's disk goes on. -/
theorem IsSeg.disk_goes {w w' : World} {B : Nat} {m : SegM} {S : SegD} {g' : Option Nat} {D' : DiskD} (h : IsSeg w B m S) (hd : IsDisk w' B m.dp g' D') (t : Touch (onDisk m.dp m.dg) w w') (hf : S.slots.length ≤ D'.lines.length) (hg : ∀ k, g' = some k → m.dg = some k ∨ w.heap.size ≤ k) :
    IsSeg w' B { m with dg := g' } { S with D := D' } ∧ Touch m.on w w' ∧ (∀ k, ({ m with dg := g' } : SegM).on k → m.on k ∨ w.heap.size ≤ k) := by
  obtain ⟨v, qs, hv, hl, hp, hr, hs⟩ := h.val
  have t1 : Touch m.on w w' := t.mono fun k _ e => .inr (.inr e)
  refine ⟨⟨⟨h.ok.rising, h.ok.each, h.ok.sealed0, h.ok.sealed1, h.ok.trim0, h.ok.trim1, hf⟩, h.low, Nat.le_trans h.cl t.size, hd, v, qs, hv, hl, ?_, ?_, fun i h1 h2 => (hs i h1 h2).touch h t1⟩, t1, ?_⟩
  · exact (t.block m.p (ltAt hp) fun e => (h.disk_off e).1 rfl).trans hp
  · exact ownsRow_of_heap hr fun k hk => t.block k (hr.lt k hk).2 fun e => (h.disk_off e).2 (hv.symm.trans hk)
  · rintro k (e | e | e | e)
    · exact .inl (.inl e)
    · exact .inl (.inr (.inl e))
    · exact .inl (.inr (.inr (.inl e)))
    · rcases hg k e with h1 | h1
      · exact .inl (.inr (.inr (.inr h1)))
      · exact .inr h1

/-- What segments put down. -/
structure EntW (e : EntD) : Prop where
  sign : e.sign = 112 ∨ e.sign = 115 ∨ e.sign = 99 ∨ e.sign = 116
  low : 0 ≤ e.n
  high : e.n ≤ 2147483647
  put : e.sign = 112 → GoodR e.r
  zero : e.sign ≠ 112 → e.r = zeroR

structure RecB (r : RecD) : Prop where
  site0 : -9223372036854775808 ≤ r.site
  site1 : r.site ≤ 9223372036854775807
  seq0 : -9223372036854775808 ≤ r.seq
  seq1 : r.seq ≤ 9223372036854775807
  len : r.dep.length ≤ 8
  inr : InR r.dep
  key : r.key.size ≤ 8
  val : r.val.size ≤ 16

theorem GoodR.b {r : RecD} (h : GoodR r) : RecB r := by
  obtain ⟨-, -, a3, a4, a5, a6, a7, a8, -, a10, a11⟩ := check_parts h
  refine ⟨by omega, by omega, by omega, by omega, by omega, fun x hx => ?_, ?_, ?_⟩
  · have := a8 x hx
    omega
  · unfold isKeyL at a10
    rw [Bool.and_eq_true, decide_eq_true_eq, ← Lib.size_eq] at a10
    omega
  · unfold checkValL at a11
    rw [← Lib.size_eq] at a11
    split at a11
    · split at a11
      · cases a11
      · omega
    · cases a11
theorem zeroR_b : RecB zeroR := ⟨by decide, by decide, by decide, by decide, by decide, fun x hx => (by cases hx), by decide, by decide⟩
theorem EntW.b {e : EntD} (h : EntW e) : RecB e.r := by
  by_cases hs : e.sign = 112
  · exact (h.put hs).b
  · rw [h.zero hs]; exact zeroR_b

/-- What add makes of a segment; what it answers. -/
def addE (S : SegD) (e : EntD) : Int := writeE S.D (textE e)
def addS (S : SegD) (e : EntD) : SegD := if addE S e = 0 then applyS { S with D := writeD S.D (textE e) } e S.D.lines.length else S

theorem textE_size {e : EntD} (h : EntW e) : (textE e).size ≤ 400 := by
  have hb := h.b
  have l1 := Lib.itoa_length_le e.n (by have := h.low; omega) (by have := h.high; omega)
  have z1 : (⟨(Lib.itoa e.n).toArray⟩ : ByteArray).size ≤ 21 := by simpa [ByteArray.size] using l1
  have z2 : (⟨#[e.sign]⟩ : ByteArray).size = 1 := rfl
  have z3 : (⟨#[32]⟩ : ByteArray).size = 1 := rfl
  have z4 := textR_size hb.site0 hb.site1 hb.seq0 hb.seq1 hb.inr
  have := hb.len
  have := hb.key
  have := hb.val
  unfold textE
  split <;> simp only [ByteArray.size_append] <;> omega

theorem writeD_lines {D : DiskD} {s : ByteArray} (h : writeE D s = 0) : (writeD D s).lines = D.lines ++ [s] := by unfold writeD; rw [if_pos h]

theorem mayS_D (S : SegD) (D : DiskD) (e : EntD) : mayS { S with D := D } e = mayS S e := rfl

set_option maxHeartbeats 4000000 in
set_option maxRecDepth 100000 in
theorem add_calls (B : Nat) (m : SegM) (S : SegD) (e : EntD) (v : Value) (w : World) (hd : IsSeg w B m S) (hB : B ≤ w.heap.size) (hv : IsEnt w m.c v e) (hm : mayS S e = true) (he : EntW e) (hp : Pow w) :
    Calls Tryz.prog 121 #[.pointer (some ⟨m.p, 0, none⟩), v] w fun x w' => x = .returned (.int .i64 (addE S e)) ∧ ∃ m', m'.p = m.p ∧ m'.dp = m.dp ∧ m'.c = m.c ∧ IsSeg w' B m' (addS S e) ∧ Touch m.on w w' ∧ (∀ k, m'.on k → m.on k ∨ w.heap.size ≤ k) := by
  have hb := he.b
  have hts := textE_size he
  obtain ⟨vd, rfl, hr⟩ := id hv
  obtain ⟨a, cap, rfl⟩ := ownsRow_slice hr
  have HB := box_below w (.cells #[.string ⟨#[e.sign]⟩, .int .i64 e.n, .int .i64 e.r.site, .int .i64 e.r.seq, .slice a e.r.dep.length cap, .string e.r.key, .string e.r.val] 170)
  obtain ⟨W1, hW1⟩ : ∃ W1, w.alloc (.cells #[.string ⟨#[e.sign]⟩, .int .i64 e.n, .int .i64 e.r.site, .int .i64 e.r.seq, .slice a e.r.dep.length cap, .string e.r.key, .string e.r.val] 170) = W1 := ⟨_, rfl⟩
  have x0 : W1.heap[w.heap.size]? = some (.cells #[.string ⟨#[e.sign]⟩, .int .i64 e.n, .int .i64 e.r.site, .int .i64 e.r.seq, .slice a e.r.dep.length cap, .string e.r.key, .string e.r.val] 170 (0, 0)) := by rw [← hW1]; exact World.alloc_heap_new w _
  rw [hW1] at HB
  have hd1 := hd.keep HB
  have u1 := hide (fun w h => diskLen_calls B m.dp m.dg S.D w h)
  have hlen := hd.disk.len
  obtain ⟨vs, qs, -, -, hp1, -, -⟩ := hd1.val
  obtain ⟨c0, -, -, -, -, -, -, -⟩ := cells4 hp1
  obtain ⟨k0, k1, k2, k3, k4, k5, k6, -, -, -, -, -, -, -⟩ := cells7 x0
  have ut := hide (fun w2 (h2 : Below W1.heap.size W1 w2) => entText_calls m.c _ e w2 ((hv.below HB).below h2) (by have := he.low; omega) (by have := he.high; omega) hb.site0 hb.site1 hb.seq0 hb.seq1 (by have := hb.len; omega) hb.inr (by have := hb.key; omega) (by have := hb.val; omega) ((hp.below HB).below h2))
  obtain ⟨T, hT⟩ : ∃ T, textE e = T := ⟨_, rfl⟩
  obtain ⟨E, hE⟩ : ∃ E, addE S e = E := ⟨_, rfl⟩
  have hE' : writeE S.D T = E := by rw [← hE, ← hT]; rfl
  have hS' : addS S e = if E = 0 then applyS { S with D := writeD S.D T } e S.D.lines.length else S := by unfold addS; rw [hE, hT]
  rw [hT] at ut hts
  obtain ⟨S2, hS2⟩ : ∃ S2, addS S e = S2 := ⟨_, rfl⟩
  rw [hE, hS2]
  have HS : Hid (S2 = if E = 0 then applyS { S with D := writeD S.D T } e S.D.lines.length else S) := hS2.symm.trans hS'
  clear hS2
  have Hd := hide hd
  have Hd1 := hide hd1
  have HE := hide hE'
  have HW := hide hW1
  have Hv := hide hv
  have X0 := hide x0
  have Hp := hide hp1
  clear hd hd1 hE hE' hS' hT hW1 hp hv hr hb x0 hp1
  have hlt : m.p < w.heap.size := Hd.out.lt
  obtain ⟨_, _, -, -, hpw, -, -⟩ := Hd.out.val
  have cw := (cells4 hpw).1
  clear hpw
  unfold ptrV at c0 cw
  go_enter Tryz.func121, Tryz.ntmps121
  go_wp2_with (first | (go_at_call 128; rw [HW.out]; refine (u1.out _ Hd1.out.disk).mono ?_; rintro x w' ⟨rfl, hw'⟩; subst hw'))
  clear cw hlt
  obtain ⟨W2, hW2⟩ : ∃ W2, w'.drew = W2 := ⟨_, rfl⟩
  have B2 : Below w'.heap.size w' W2 := by rw [← hW2]; exact ⟨rfl, rfl, rfl, Nat.le_refl _, fun _ _ => rfl⟩
  have c2 : W2.cell? ⟨m.p, 0, none⟩ = some (.pointer (some ⟨m.dp, 0, none⟩)) := by rw [← hW2]; exact c0
  have l0 : W2.cell? ⟨w.heap.size, 0, none⟩ = some (.string ⟨#[e.sign]⟩) := by rw [← hW2]; exact k0
  have l1 : W2.cell? ⟨w.heap.size, 1, none⟩ = some (.int .i64 e.n) := by rw [← hW2]; exact k1
  have l2 : W2.cell? ⟨w.heap.size, 2, none⟩ = some (.int .i64 e.r.site) := by rw [← hW2]; exact k2
  have l3 : W2.cell? ⟨w.heap.size, 3, none⟩ = some (.int .i64 e.r.seq) := by rw [← hW2]; exact k3
  have l4 : W2.cell? ⟨w.heap.size, 4, none⟩ = some (.slice a e.r.dep.length cap) := by rw [← hW2]; exact k4
  have l5 : W2.cell? ⟨w.heap.size, 5, none⟩ = some (.string e.r.key) := by rw [← hW2]; exact k5
  have l6 : W2.cell? ⟨w.heap.size, 6, none⟩ = some (.string e.r.val) := by rw [← hW2]; exact k6
  refine region_headT 7 (fun w2 => w2.cell? ⟨m.p, 0, none⟩ = some (.pointer (some ⟨m.dp, 0, none⟩)) ∧ w2.cell? ⟨w.heap.size, 0, none⟩ = some (.string ⟨#[e.sign]⟩) ∧ w2.cell? ⟨w.heap.size, 1, none⟩ = some (.int .i64 e.n) ∧ w2.cell? ⟨w.heap.size, 2, none⟩ = some (.int .i64 e.r.site) ∧ w2.cell? ⟨w.heap.size, 3, none⟩ = some (.int .i64 e.r.seq) ∧ w2.cell? ⟨w.heap.size, 4, none⟩ = some (.slice a e.r.dep.length cap) ∧ w2.cell? ⟨w.heap.size, 5, none⟩ = some (.string e.r.key) ∧ w2.cell? ⟨w.heap.size, 6, none⟩ = some (.string e.r.val)) (by kernel_rfl) (by decide) ?_
  rw [hW2]
  clear hW2
  refine HeadT.take 0 (.pointer (some ⟨m.p, 0, none⟩)) rfl (by kernel_rfl) (.inl ⟨rfl, fun w2 ⟨s0, s1, s2, s3, s4, s5, s6, s7⟩ => by go_simp⟩) ⟨c2, l0, l1, l2, l3, l4, l5, l6⟩ ?_
  refine HeadT.take 1 (.pointer (some ⟨m.p, 0, none⟩)) rfl (by kernel_rfl) (.inl ⟨rfl, fun w2 ⟨s0, s1, s2, s3, s4, s5, s6, s7⟩ => by go_simp⟩) ⟨c2, l0, l1, l2, l3, l4, l5, l6⟩ ?_
  refine HeadT.take 2 (.pointer (some ⟨m.p, 0, none⟩)) rfl (by kernel_rfl) (.inl ⟨rfl, fun w2 ⟨s0, s1, s2, s3, s4, s5, s6, s7⟩ => by go_simp⟩) ⟨c2, l0, l1, l2, l3, l4, l5, l6⟩ ?_
  refine HeadT.take 3 (.pointer (some ⟨m.dp, 0, none⟩)) rfl (by kernel_rfl) (.inl ⟨rfl, fun w2 ⟨s0, s1, s2, s3, s4, s5, s6, s7⟩ => by go_simp⟩) ⟨c2, l0, l1, l2, l3, l4, l5, l6⟩ ?_
  refine HeadT.take 4 (.agg #[.string ⟨#[e.sign]⟩, .int .i64 e.n, .int .i64 e.r.site, .int .i64 e.r.seq, .slice a e.r.dep.length cap, .string e.r.key, .string e.r.val]) rfl (by kernel_rfl) (.inl ⟨rfl, fun w2 ⟨s0, s1, s2, s3, s4, s5, s6, s7⟩ => by go_simp⟩) ⟨c2, l0, l1, l2, l3, l4, l5, l6⟩ ?_
  have XA := keepB X0.out B2
  have PA := keepB Hp.out B2
  refine HeadT.only 5 (by kernel_rfl) ?_
  refine wpOp_call rfl rfl 173 #[.agg #[.string ⟨#[e.sign]⟩, .int .i64 e.n, .int .i64 e.r.site, .int .i64 e.r.seq, .slice a e.r.dep.length cap, .string e.r.key, .string e.r.val]] (by go_simp) (ut.out W2 B2) ?_
  rintro x w2 ⟨rfl, hb2'⟩
  have hb2 : Below w'.heap.size w' w2 := B2.trans (hb2'.mono B2.size)
  have xB := cells7 (keepB XA hb2')
  have pB := (cells4 (keepB PA hb2')).1
  unfold ptrV at pB
  refine ⟨_, rfl, ⟨pB, xB.1, xB.2.1, xB.2.2.1, xB.2.2.2.1, xB.2.2.2.2.1, xB.2.2.2.2.2.1, xB.2.2.2.2.2.2.1⟩, ?_⟩
  refine HeadT.only 6 (by kernel_rfl) ?_
  have hd2 := Hd1.out.keep hb2
  have hB2 : B ≤ w2.heap.size := by have := HB.size; have := hb2.size; omega
  have uw := diskWrite_to B m.dp m.dg S.D T E (writeD S.D T) HE.out rfl w2 hd2.disk hB2 (by omega)
  refine wpOp_call rfl rfl 137 #[.pointer (some ⟨m.dp, 0, none⟩), .string T] (by go_simp) uw ?_
  rintro x w3 ⟨rfl, g3, d3, t3, n3⟩
  have s3 : S.slots.length ≤ (writeD S.D T).lines.length := by
    have := Hd.out.ok.few
    unfold writeD
    split
    · simp; omega
    · exact this
  obtain ⟨I3, T3, G3⟩ := hd2.disk_goes d3 t3 s3 n3
  have B02 : Below w.heap.size w w2 := HB.trans (hb2.mono HB.size)
  have hB3 : B ≤ w3.heap.size := by have := t3.size; omega
  have x3 : w3.heap[w.heap.size]? = some (.cells #[.string ⟨#[e.sign]⟩, .int .i64 e.n, .int .i64 e.r.site, .int .i64 e.r.seq, .slice a e.r.dep.length cap, .string e.r.key, .string e.r.val] 170 (0, 0)) := by
    have x2 := keepB X0.out hb2
    refine (t3.block w.heap.size (ltAt x2) fun h => ?_).trans x2
    have := Hd.out.disk.on h
    omega
  have v3 : IsEnt w3 m.c (.agg #[.string ⟨#[e.sign]⟩, .int .i64 e.n, .int .i64 e.r.site, .int .i64 e.r.seq, .slice a e.r.dep.length cap, .string e.r.key, .string e.r.val]) e := by
    obtain ⟨vd, hvd, hr⟩ := (Hv.out.below B02)
    refine ⟨vd, hvd, ownsRow_of_heap hr fun k hk => t3.block k (hr.lt k hk).2 fun e' => ?_⟩
    obtain ⟨-, -, c', t', h1, h2, h3⟩ := hd2.types (.inr (.inr e'))
    exact row_not hr h1 h3 hk.symm
  obtain ⟨_, _, -, -, hp3, -, -⟩ := I3.val
  have c3 := (cells4 hp3).1
  obtain ⟨j0, j1, j2, j3, j4, j5, j6, -, -, -, -, -, -, -⟩ := cells7 x3
  unfold ptrV at c3
  dsimp only at c3
  refine ⟨_, rfl, ⟨c3, j0, j1, j2, j3, j4, j5, j6⟩, ?_⟩
  refine HeadT.tail rfl (by kernel_rfl) ?_
  clear hp3 x3 hd2 uw ut u1 c0 k0 k1 k2 k3 k4 k5 k6 d3 n3 hb2 t3 c2 l0 l1 l2 l3 l4 l5 l6 xB pB XA PA hb2' B2
  simp only [List.drop_succ_cons, List.drop_zero]
  by_cases hE : E = 0
  · have e2 := HS.out
    rw [if_pos hE] at e2
    subst e2
    subst hE
    have hap := hide (apply_calls B { m with dg := g3 } { S with D := writeD S.D T } e _ S.D.lines.length w3 I3 hB3 v3 hm ⟨he.sign, he.low, he.high, fun h => ⟨he.put h, by dsimp only; rw [writeD_lines HE.out]; have := Hd.out.ok.few; simp; omega⟩⟩ (by
      have h1 := I3.disk.len
      dsimp only at h1
      rw [writeD_lines HE.out] at h1
      simp at h1
      omega))
    have HG := hide G3
    clear G3 I3 v3
    go_wp2_with fail
    simp only [noPanic]
    go_wp2_with (first | (go_at_call 150; refine hap.out.mono ?_; rintro x w4 ⟨rfl, sg4, I4, T4, G4⟩))
    go_ret
    refine ⟨rfl, { m with dg := g3, sg := sg4 }, rfl, rfl, rfl, I4, ((T3.next T4 fun i hi h => ?_).of_touch B02), fun k hk => ?_⟩
    · rcases HG.out i h with h1 | h1
      · exact h1
      · omega
    · have hsz := B02.size
      have hs3 := T3.size
      rcases hk with h1 | h1 | h1
      · exact .inl (.inl h1)
      · rcases G4 k h1 with h2 | h2
        · exact .inl (.inr (.inl h2))
        · exact .inr (by omega)
      · rcases HG.out k (.inr (.inr h1)) with h2 | h2
        · exact .inl h2
        · exact .inr (by omega)
  · have e2 := HS.out
    rw [if_neg hE] at e2
    subst e2
    have hE' : (E != 0) = true := by simp [hE]
    have hDD : writeD S2.D T = S2.D := by unfold writeD; rw [HE.out, if_neg hE]
    rw [hDD] at I3
    have I := hide I3
    have HG := hide G3
    clear I3 G3 v3
    go_wp2_with fail
    simp only [noPanic]
    go_wp2_with fail
    go_ret
    exact ⟨rfl, { m with dg := g3 }, rfl, rfl, rfl, I.out, T3.of_touch B02, fun k hk => (HG.out k hk).imp id fun h => Nat.le_trans B02.size h⟩

/-- add, and what waited lasts. -/
def lastS (S : SegD) (e : EntD) : SegD := if addE S e = 0 then { addS S e with D := ⟨(addS S e).D.room, (addS S e).D.lines, (addS S e).D.lines.length⟩ } else S

set_option maxHeartbeats 4000000 in
set_option maxRecDepth 100000 in
theorem addLasting_calls (B : Nat) (m : SegM) (S : SegD) (e : EntD) (v : Value) (w : World) (hd : IsSeg w B m S) (hB : B ≤ w.heap.size) (hv : IsEnt w m.c v e) (hm : mayS S e = true) (he : EntW e) (hp : Pow w) :
    Calls Tryz.prog 185 #[.pointer (some ⟨m.p, 0, none⟩), v] w fun x w' => x = .returned (.int .i64 (addE S e)) ∧ ∃ m', m'.p = m.p ∧ m'.dp = m.dp ∧ m'.c = m.c ∧ IsSeg w' B m' (lastS S e) ∧ Touch m.on w w' ∧ (∀ k, m'.on k → m.on k ∨ w.heap.size ≤ k) := by
  obtain ⟨vd, rfl, hr⟩ := id hv
  obtain ⟨a, cap, rfl⟩ := ownsRow_slice hr
  have HB := box_below w (.cells #[.string ⟨#[e.sign]⟩, .int .i64 e.n, .int .i64 e.r.site, .int .i64 e.r.seq, .slice a e.r.dep.length cap, .string e.r.key, .string e.r.val] 170)
  obtain ⟨W1, hW1⟩ : ∃ W1, w.alloc (.cells #[.string ⟨#[e.sign]⟩, .int .i64 e.n, .int .i64 e.r.site, .int .i64 e.r.seq, .slice a e.r.dep.length cap, .string e.r.key, .string e.r.val] 170) = W1 := ⟨_, rfl⟩
  rw [hW1] at HB
  have ua := hide (add_calls B m S e _ W1 (hd.keep HB) (by have := HB.size; omega) (hv.below HB) hm he (hp.below HB))
  obtain ⟨E, hE⟩ : ∃ E, addE S e = E := ⟨_, rfl⟩
  obtain ⟨S2, hS2⟩ : ∃ S2, lastS S e = S2 := ⟨_, rfl⟩
  obtain ⟨S1, hS1⟩ : ∃ S1, addS S e = S1 := ⟨_, rfl⟩
  have HS : Hid (S2 = if E = 0 then { S1 with D := ⟨S1.D.room, S1.D.lines, S1.D.lines.length⟩ } else S) := by rw [← hS2, ← hS1, ← hE]; rfl
  have HN : Hid (¬ E = 0 → S1 = S) := fun h => by rw [← hS1]; unfold addS; rw [hE, if_neg h]
  rw [hE, hS1] at ua
  rw [hE, hS2]
  have HW := hide hW1
  clear hd hE hS2 hS1 hW1 hp hv hr
  by_cases hE : E = 0
  · have e2 := HS.out
    rw [if_pos hE] at e2
    subst e2
    subst hE
    go_enter Tryz.func185, Tryz.ntmps185
    go_wp2_with fail
    rw [HW.out]
    refine ua.out.mono ?_
    rintro x w2 ⟨rfl, m2, hp2, hdp2, hc2, I2, T2, G2⟩
    obtain ⟨_, _, -, -, hpw, -, -⟩ := I2.val
    have c0 := (cells4 hpw).1
    unfold ptrV at c0
    rw [hp2, hdp2] at c0
    have us := hide (diskSync_calls B m2.dp m2.dg S1.D w2 I2.disk)
    rw [hdp2] at us
    have Hdp := hide hdp2
    have Hp2 := hide hp2
    have I := hide I2
    have HG := hide G2
    clear hpw I2 G2 ua hp2 hdp2
    go_wp2_with fail
    refine us.out.mono ?_
    rintro x w3 ⟨rfl, d3, t3⟩
    rw [← Hdp.out] at d3 t3
    obtain ⟨I3, T3, G3⟩ := I.out.disk_goes d3 t3 I.out.ok.few (fun k hk => .inl hk)
    have hsz := HB.size
    have hs2 := T2.size
    go_wp2_with fail
    go_ret
    refine ⟨rfl, { m2 with dg := m2.dg }, Hp2.out, Hdp.out, hc2, I3, (T2.next T3 fun i hi h => (HG.out i h).resolve_right (by omega)).of_touch HB, fun k hk => ?_⟩
    rcases G3 k hk with h | h
    · rcases HG.out k h with h1 | h1
      · exact .inl h1
      · exact .inr (by omega)
    · exact .inr (by omega)
  · have e2 := HS.out
    rw [if_neg hE] at e2
    have e3 := HN.out hE
    clear HN HS
    subst e3
    subst e2
    have hE' : (E == 0) = false := by simp [hE]
    go_enter Tryz.func185, Tryz.ntmps185
    go_wp2_with fail
    rw [HW.out]
    refine ua.out.mono ?_
    rintro x w2 ⟨rfl, m2, hp2, hdp2, hc2, I2, T2, G2⟩
    have I := hide I2
    have HG := hide G2
    clear I2 G2 ua
    go_wp2_with fail
    go_ret
    exact ⟨rfl, m2, hp2, hdp2, hc2, I.out, T2.of_touch HB, fun k hk => (HG.out k hk).imp id fun h => Nat.le_trans HB.size h⟩

end Go.Proofs.YtjbjjfndkpcciaaGreatDoor

/- seg's end, Sealed, Disk, Lasts, Get. Own work; no statement. -/
set_option linter.unusedSimpArgs false
set_option linter.unusedVariables false
namespace Go.Proofs.YtjbjjfndkpcciaaGreatDoor
open Go.RowKit Go.Shelf Go.Sort

/-- The position behind the last record; the trim, if there is none. -/
def endS (S : SegD) : Int := match S.slots.getLast? with
  | none => S.trim
  | some x => x.pos + 1

set_option maxHeartbeats 2000000 in
theorem segSealed_calls (B : Nat) (m : SegM) (S : SegD) (w : World) (hd : IsSeg w B m S) :
    Calls Tryz.prog 135 #[.pointer (some ⟨m.p, 0, none⟩)] w fun e w' => e = .returned (.int .i64 S.sealed) ∧ w' = w := by
  obtain ⟨v, qs, -, -, hp, -, -⟩ := hd.val
  obtain ⟨-, c1, -, -, -, -, -, -⟩ := cells4 hp
  clear hp hd
  go_enter Tryz.func135, Tryz.ntmps135
  go_wp2
  go_ret
  exact ⟨rfl, rfl⟩

set_option maxHeartbeats 2000000 in
theorem segDisk_calls (B : Nat) (m : SegM) (S : SegD) (w : World) (hd : IsSeg w B m S) :
    Calls Tryz.prog 45 #[.pointer (some ⟨m.p, 0, none⟩)] w fun e w' => e = .returned (.pointer (some ⟨m.dp, 0, none⟩)) ∧ w' = w := by
  obtain ⟨v, qs, -, -, hp, -, -⟩ := hd.val
  obtain ⟨c0, -, -, -, -, -, -, -⟩ := cells4 hp
  unfold ptrV at c0
  clear hp hd
  go_enter Tryz.func45, Tryz.ntmps45
  go_wp2
  go_ret
  exact ⟨rfl, rfl⟩

/-- The k-th of a segment's slots, for a walk. -/
theorem IsSeg.slot {w : World} {B : Nat} {m : SegM} {S : SegD} (h : IsSeg w B m S) {k : Nat} (hk : k < S.slots.length) : ∃ a cap q, w.cell? ⟨m.p, 3, none⟩ = some (.slice (some ⟨a, 0, none⟩) S.slots.length cap) ∧ w.cell? ⟨a, k, none⟩ = some (.pointer (some ⟨q, 0, none⟩)) ∧ SlotAt w m.c q S.slots[k] := by
  obtain ⟨v, qs, hv, hl, hp, hr, hs⟩ := h.val
  have c3 := (cells4 hp).2.2.2.1
  rcases hr.2 with ⟨rfl, h0⟩ | ⟨g, cap, cur, rfl, hb, hg, hnc, hcm, hcs, ht⟩
  · omega
  · refine ⟨g, cap, qs[k], by rw [c3, hl], ?_, hs k (by omega) hk⟩
    rw [hr.cellAt k (by omega)]
    simp [ptrV, show k < qs.length by omega]

set_option maxHeartbeats 2000000 in
theorem end_calls (B : Nat) (m : SegM) (S : SegD) (w : World) (hd : IsSeg w B m S) :
    Calls Tryz.prog 186 #[.pointer (some ⟨m.p, 0, none⟩)] w fun e w' => e = .returned (.int .i64 (endS S)) ∧ ∃ n, w' = w.drewN n := by
  have hlen := hd.disk.len
  have hfew := hd.ok.few
  by_cases h0 : S.slots = []
  · have e : endS S = S.trim := by unfold endS; rw [h0]; rfl
    rw [e]
    obtain ⟨v, qs, -, hl, hp, hr, -⟩ := hd.val
    obtain ⟨-, -, c2, c3, -, -, -, -⟩ := cells4 hp
    obtain ⟨a, cap, rfl⟩ := ownsRow_slice hr
    have hq : qs.length = 0 := by rw [hl, h0]; rfl
    rw [hq] at c3
    clear hp hd hr hl hq
    go_enter Tryz.func186, Tryz.ntmps186
    go_wp2
    go_ret
    exact ⟨rfl, 0, rfl⟩
  · have hpos : 0 < S.slots.length := List.length_pos_iff.2 h0
    obtain ⟨a, cap, q, c3, cq, hs⟩ := hd.slot (k := S.slots.length - 1) (by omega)
    have e : endS S = S.slots[S.slots.length - 1].pos + 1 := by
      unfold endS
      rw [List.getLast?_eq_getElem?, List.getElem?_eq_getElem (by omega)]
    rw [e]
    obtain ⟨vd, -, hq, -⟩ := hs
    obtain ⟨b1, b2, -, -, -⟩ := hd.ok.each _ (List.getElem_mem (show S.slots.length - 1 < S.slots.length by omega))
    have cp := (cells7 hq).1
    generalize S.slots[S.slots.length - 1].pos = pos at *
    obtain ⟨n, hn⟩ : ∃ n, S.slots.length = n := ⟨_, rfl⟩
    rw [hn] at c3 cq hpos
    have hn1 : n ≤ 1048576 := by omega
    have hidx : (n : Int) - 1 = ((n - 1 : Nat) : Int) := by omega
    have hne : ¬ (n : Int) = 0 := by omega
    clear hq hd hn h0 e hlen hfew
    go_enter Tryz.func186, Tryz.ntmps186
    go_wp2
    go_quiet (fail)
    go_wp2
    go_ret
    exact ⟨rfl, _, rfl⟩

end Go.Proofs.YtjbjjfndkpcciaaGreatDoor

/- seg's Get. Own work; no statement. -/
set_option linter.unusedSimpArgs false
set_option linter.unusedVariables false
namespace Go.Proofs.YtjbjjfndkpcciaaGreatDoor
open Go.RowKit Go.Shelf Go.Sort

theorem isAt_slot (S : SegD) (pos : Int) : isAt (poss S) pos = match S.slots[belowN (poss S) pos]? with
  | none => false
  | some x => decide (x.pos = pos) := by
  unfold isAt
  generalize belowN (poss S) pos = i
  rw [poss_length]
  by_cases h : i < S.slots.length
  · rw [List.getElem?_eq_getElem h, poss_get S i h, decide_eq_true h]
    rfl
  · rw [List.getElem?_eq_none (by omega), decide_eq_false h]
    rfl

/-- What Get tells. -/
def getS (S : SegD) (pos : Int) : RecD × Int := if pos < S.trim then (zeroR, 8) else match S.slots[belowN (poss S) pos]? with
  | none => (zeroR, 9)
  | some x => if x.pos = pos then (x.r, 0) else (zeroR, 9)

theorem getS_not {S : SegD} {pos : Int} (h : ¬ pos < S.trim) (h1 : isAt (poss S) pos = false) : getS S pos = (zeroR, 9) := by
  rw [isAt_slot] at h1
  unfold getS
  rw [if_neg h]
  split at h1
  · rfl
  · rw [if_neg (by simpa using h1)]

set_option maxHeartbeats 4000000 in
set_option maxRecDepth 100000 in
theorem segGet_calls (B : Nat) (m : SegM) (S : SegD) (pos : Int) (w : World) (hd : IsSeg w B m S) :
    Calls Tryz.prog 73 #[.pointer (some ⟨m.p, 0, none⟩), .int .i64 pos] w fun e w' => ∃ v, e = .returned (.tuple #[v, .int .i64 (getS S pos).2]) ∧ OwnRec w.heap.size w' v (getS S pos).1 ∧ Below w.heap.size w w' := by
  have HB := box_below w (.cells #[.int .i64 0, .int .i64 0, .slice none 0 0, .string ⟨#[]⟩, .string ⟨#[]⟩] 36)
  obtain ⟨W1, hW1⟩ : ∃ W1, w.alloc (.cells #[.int .i64 0, .int .i64 0, .slice none 0 0, .string ⟨#[]⟩, .string ⟨#[]⟩] 36) = W1 := ⟨_, rfl⟩
  have x0 : W1.heap[w.heap.size]? = some (.cells #[.int .i64 0, .int .i64 0, .slice none 0 0, .string ⟨#[]⟩, .string ⟨#[]⟩] 36 (0, 0)) := by rw [← hW1]; exact World.alloc_heap_new w _
  rw [hW1] at HB
  have hd1 := hd.keep HB
  have u1 := hide (find_calls B m S pos W1 hd1)
  obtain ⟨vs, qs, hvs, hl, hp, hr1, hsl⟩ := hd1.val
  obtain ⟨c0, c1, c2, c3, f0, f1, f2, f3⟩ := cells4 hp
  obtain ⟨k0, k1, k2, k3, k4, g0, g1, g2, g3, g4⟩ := cells5 x0
  have b3 := hd.ok.trim0
  have b4 := hd.ok.trim1
  have hlt := hd.lt
  obtain ⟨_, _, -, -, hpw, -, -⟩ := hd.val
  have cw := (cells4 hpw).2.2.1
  clear hpw
  have HW := hide hW1
  have X0 := hide x0
  have Hd1 := hide hd1
  clear hd hp hr1 hl hsl hvs x0 hW1 f0 f1 f2 f3 c0 c1
  by_cases ht : pos < S.trim
  · rw [show getS S pos = (zeroR, 8) by unfold getS; rw [if_pos ht]]
    clear hd1 c3 u1
    go_enter Tryz.func73, Tryz.ntmps73
    go_wp2_with fail
    rw [HW.out]
    refine bodyPost_ret (v := .tuple #[.agg #[.int .i64 0, .int .i64 0, .slice none 0 0, .string ⟨#[]⟩, .string ⟨#[]⟩], .int .i64 8]) (by simp [results, Tryz.f73, go_sem, k0, k1, k2, k3, k4]) rfl ⟨_, rfl, zero_own _ _, HB⟩
  · by_cases hat : isAt (poss S) pos = true
    · have hsl := isAt_slot S pos
      rw [hat] at hsl u1
      obtain ⟨x, hx, hxp⟩ : ∃ x, S.slots[belowN (poss S) pos]? = some x ∧ x.pos = pos := by
        split at hsl
        · cases hsl
        · rename_i x e
          exact ⟨x, e, by simpa using hsl.symm⟩
      have hi : belowN (poss S) pos < S.slots.length := (List.getElem?_eq_some_iff.1 hx).1
      have hxe : S.slots[belowN (poss S) pos] = x := (List.getElem?_eq_some_iff.1 hx).2
      rw [show getS S pos = (x.r, 0) by unfold getS; rw [if_neg ht, hx]; dsimp only; rw [if_pos hxp]]
      obtain ⟨a, cap, q, d3, cq, hs⟩ := hd1.slot hi
      rw [hxe] at hs
      obtain ⟨-, -, -, -, hg⟩ := hd1.ok.each x (List.mem_of_getElem? hx)
      have hdl : x.r.dep.length ≤ 17592186044416 := by have := hg.b.len; omega
      obtain ⟨vd, -, hq, hrow⟩ := hs
      obtain ⟨e0, e1, e2, e3, e4, e5, e6, -, -, -, -, -, -, -⟩ := cells7 hq
      have hfew := hd1.ok.few
      have hlen := hd1.disk.len
      have hiN : (belowN (poss S) pos : Int) < (S.slots.length : Int) := by omega
      have hN : S.slots.length ≤ 1048576 := by omega
      clear hfew hlen hx hxe hsl hi hd1 c3 hg
      generalize belowN (poss S) pos = i at *
      generalize S.slots.length = N at *
      obtain ⟨da, dcap, rfl⟩ := ownsRow_slice hrow
      have C := hide (fun W (h : Below W1.heap.size W1 W) => segCopied_calls (.agg #[.int .i64 x.r.site, .int .i64 x.r.seq, .slice da x.r.dep.length dcap, .string x.r.key, .string x.r.val]) x.r W ⟨da, dcap, rfl, (IsNums.of_row hrow).below h⟩ hdl)
      clear hq hrow
      go_enter Tryz.func73, Tryz.ntmps73
      go_wp2_with (go_at_call 132; rw [HW.out]; refine u1.out.mono ?_; rintro e w' ⟨rfl, nq, hw'⟩; subst hw')
      refine (C.out _ (drewsB W1 nq)).mono ?_
      rintro e w2 ⟨v2, rfl, ⟨vd2, rfl, hown⟩, hb2⟩
      obtain ⟨a', cap', rfl⟩ := ownsRow_slice hown
      have Z2 := keepB (show (W1.drewN nq).heap[w.heap.size]? = _ from X0.out) hb2
      have B2 := HB.trans (((drewsB W1 nq).trans hb2).mono HB.size)
      have hsz : w.heap.size < (W1.drewN nq).heap.size := ltAt X0.out
      obtain ⟨z0, z1, z2, z3, z4, y0, y1, y2, y3, y4⟩ := cells5 Z2
      have Hown := hide hown
      have HZ2 := hide Z2
      clear C c2 k0 k1 k2 k3 k4 g0 g1 g2 g3 g4 hb2 Z2 hown d3 cq e0 e1 e2 e3 e4 e5 e6 cw
      go_wp2_with fail
      obtain ⟨W2, hW2⟩ : ∃ W2, put5 w2 w.heap.size (.int .i64 x.r.site) (.int .i64 x.r.seq) (.slice a' x.r.dep.length cap') (.string x.r.key) (.string x.r.val) = W2 := ⟨_, rfl⟩
      have e2 := put5_heap HZ2.out (.int .i64 x.r.site) (.int .i64 x.r.seq) (.slice a' x.r.dep.length cap') (.string x.r.key) (.string x.r.val)
      have hB2 := put5_below B2 (Nat.le_refl _) (.int .i64 x.r.site) (.int .i64 x.r.seq) (.slice a' x.r.dep.length cap') (.string x.r.key) (.string x.r.val)
      have hoth : ∀ k, k ≠ w.heap.size → W2.heap[k]? = w2.heap[k]? := fun k hk => by rw [← hW2]; exact put5_other k hk _ _ _ _ _
      rw [hW2] at e2 hB2
      unfold put5 at hW2
      rw [hW2]
      clear hW2 z0 z1 z2 z3 z4 y0 y1 y2 y3 y4
      obtain ⟨k0, k1, k2, k3, k4, -, -, -, -, -⟩ := cells5 e2
      refine bodyPost_ret (v := .tuple #[.agg #[.int .i64 x.r.site, .int .i64 x.r.seq, .slice a' x.r.dep.length cap', .string x.r.key, .string x.r.val], .int .i64 0]) (by simp [results, Tryz.f73, go_sem, k0, k1, k2, k3, k4]) rfl ⟨_, rfl, ⟨_, rfl, ?_⟩, hB2⟩
      exact ownsRow_low (ownsRow_of_heap Hown.out fun k hk => hoth k (by have := (Hown.out.lt k hk).1; omega)) (by omega)
    · rw [Bool.not_eq_true] at hat
      rw [getS_not ht hat]
      rw [hat] at u1
      clear hd1 c3
      go_enter Tryz.func73, Tryz.ntmps73
      go_wp2_with (go_at_call 132; rw [HW.out]; refine u1.out.mono ?_; rintro e w' ⟨rfl, nq, hw'⟩; subst hw')
      obtain ⟨W2, hW2, j0, j1, j2, j3, j4, hB2⟩ := parse_zero (show (W1.drewN nq).heap[w.heap.size]? = _ from X0.out) (HB.trans ((drewsB W1 nq).mono HB.size)) (Nat.le_refl _)
      unfold put5 at hW2
      rw [hW2]
      refine bodyPost_ret (v := .tuple #[.agg #[.int .i64 0, .int .i64 0, .slice none 0 0, .string ⟨#[]⟩, .string ⟨#[]⟩], .int .i64 9]) (by simp [results, Tryz.f73, go_sem, j0, j1, j2, j3, j4]) rfl ⟨_, rfl, zero_own _ _, hB2⟩

end Go.Proofs.YtjbjjfndkpcciaaGreatDoor

/- seg's Cut, Trim, Seal, Put. Own work; no statement. -/
set_option linter.unusedSimpArgs false
set_option linter.unusedVariables false
namespace Go.Proofs.YtjbjjfndkpcciaaGreatDoor
open Go.RowKit Go.Shelf Go.Sort

/-- A segment has gone on from w to w', and is S' now. -/
def Goes (B : Nat) (m : SegM) (S' : SegD) (w w' : World) : Prop := ∃ m', m'.p = m.p ∧ m'.dp = m.dp ∧ m'.c = m.c ∧ IsSeg w' B m' S' ∧ Touch m.on w w' ∧ (∀ k, m'.on k → m.on k ∨ w.heap.size ≤ k)

theorem Goes.of_below {B : Nat} {m : SegM} {S : SegD} {a b c : World} (h : Goes B m S b c) (hb : Below a.heap.size a b) : Goes B m S a c := by
  obtain ⟨m', h1, h2, hc, h3, h4, h5⟩ := h
  exact ⟨m', h1, h2, hc, h3, h4.of_touch hb, fun k hk => (h5 k hk).imp id fun h => Nat.le_trans hb.size h⟩
theorem Goes.new {B : Nat} {m : SegM} {S : SegD} {a b c : World} (h : Goes B m S a b) (hb : Below b.heap.size b c) : Goes B m S a c := by
  obtain ⟨m', h1, h2, hc, h3, h4, h5⟩ := h
  exact ⟨m', h1, h2, hc, h3.keep hb, h4.new hb, h5⟩
theorem goes_same {B : Nat} {m : SegM} {S : SegD} {w w' : World} (h : IsSeg w B m S) (hb : Below w.heap.size w w') : Goes B m S w w' := ⟨m, rfl, rfl, rfl, h.keep hb, touch_new hb, fun _ h => .inl h⟩

/-- An entry without a record. -/
def entN (sign : UInt8) (n : Int) : EntD := ⟨sign, n, zeroR⟩
theorem entN_is (w : World) (B : Nat) (sign : UInt8) (n : Int) : IsEnt w B (.agg #[.string ⟨#[sign]⟩, .int .i64 n, .int .i64 0, .int .i64 0, .slice none 0 0, .string ⟨#[]⟩, .string ⟨#[]⟩]) (entN sign n) := ⟨_, rfl, World.ownsRow_nil _ _ _ _⟩
theorem entN_w {sign : UInt8} {n : Int} (hs : sign = 115 ∨ sign = 99 ∨ sign = 116) (h0 : 0 ≤ n) (h1 : n ≤ 2147483647) : EntW (entN sign n) :=
  ⟨.inr hs, h0, h1, fun h => by have : sign = 112 := h; subst this; rcases hs with h | h | h <;> exact absurd h (by decide), fun _ => rfl⟩

def segCutE (S : SegD) (pos : Int) : Int := if pos < 0 ∨ 2147483647 < pos then 1 else addE S (entN 99 pos)
def segCutS (S : SegD) (pos : Int) : SegD := if pos < 0 ∨ 2147483647 < pos then S else lastS S (entN 99 pos)

set_option maxHeartbeats 4000000 in
set_option maxRecDepth 100000 in
theorem segCut_calls (B : Nat) (m : SegM) (S : SegD) (pos : Int) (w : World) (hd : IsSeg w B m S) (hB : B ≤ w.heap.size) (hp : Pow w) :
    Calls Tryz.prog 181 #[.pointer (some ⟨m.p, 0, none⟩), .int .i64 pos] w fun x w' => x = .returned (.int .i64 (segCutE S pos)) ∧ Goes B m (segCutS S pos) w w' := by
  by_cases h0 : pos < 0
  · rw [show segCutE S pos = 1 by unfold segCutE; rw [if_pos (.inl h0)], show segCutS S pos = S by unfold segCutS; rw [if_pos (.inl h0)]]
    have Hd := hide hd
    clear hd
    go_enter Tryz.func181, Tryz.ntmps181
    go_wp2_with fail
    go_ret
    exact ⟨rfl, goes_same Hd.out (Below.refl _ _)⟩
  · by_cases h1 : 2147483647 < pos
    · rw [show segCutE S pos = 1 by unfold segCutE; rw [if_pos (.inr h1)], show segCutS S pos = S by unfold segCutS; rw [if_pos (.inr h1)]]
      have Hd := hide hd
      clear hd
      go_enter Tryz.func181, Tryz.ntmps181
      go_wp2_with fail
      go_ret
      exact ⟨rfl, goes_same Hd.out (Below.refl _ _)⟩
    · rw [show segCutE S pos = addE S (entN 99 pos) by unfold segCutE; rw [if_neg (by omega)], show segCutS S pos = lastS S (entN 99 pos) by unfold segCutS; rw [if_neg (by omega)]]
      have u := hide (addLasting_calls B m S (entN 99 pos) _ w hd hB (entN_is _ _ 99 pos) rfl (entN_w (.inr (.inl rfl)) (by omega) (by omega)) hp)
      clear hd
      go_enter Tryz.func181, Tryz.ntmps181
      go_wp2_with fail
      refine u.out.mono ?_
      rintro x w' ⟨rfl, hg⟩
      go_wp2_with fail
      go_ret
      exact ⟨rfl, hg⟩

def segTrimS (S : SegD) (pos : Int) : SegD := if S.trim < pos ∧ pos ≤ 2147483647 then lastS S (entN 116 pos) else S

set_option maxHeartbeats 4000000 in
set_option maxRecDepth 100000 in
theorem segTrim_calls (B : Nat) (m : SegM) (S : SegD) (pos : Int) (w : World) (hd : IsSeg w B m S) (hB : B ≤ w.heap.size) (hp : Pow w) :
    Calls Tryz.prog 146 #[.pointer (some ⟨m.p, 0, none⟩), .int .i64 pos] w fun x w' => x = .returned (.tuple #[]) ∧ Goes B m (segTrimS S pos) w w' := by
  have b3 := hd.ok.trim0
  have b4 := hd.ok.trim1
  obtain ⟨_, _, -, -, hpw, -, -⟩ := hd.val
  have cw := (cells4 hpw).2.2.1
  clear hpw
  by_cases h0 : S.trim < pos
  · by_cases h1 : pos ≤ 2147483647
    · rw [show segTrimS S pos = lastS S (entN 116 pos) by unfold segTrimS; rw [if_pos ⟨h0, h1⟩]]
      have u := hide (addLasting_calls B m S (entN 116 pos) _ w hd hB (entN_is _ _ 116 pos) (by unfold mayS entN; simp [h0]) (entN_w (.inr (.inr rfl)) (by omega) (by omega)) hp)
      clear hd
      go_enter Tryz.func146, Tryz.ntmps146
      go_wp2_with fail
      refine u.out.mono ?_
      rintro x w' ⟨rfl, hg⟩
      go_wp2_with fail
      go_end0
      exact ⟨rfl, hg⟩
    · rw [show segTrimS S pos = S by unfold segTrimS; rw [if_neg (by omega)]]
      have Hd := hide hd
      clear hd
      go_enter Tryz.func146, Tryz.ntmps146
      go_wp2_with fail
      go_end0
      exact ⟨rfl, goes_same Hd.out (Below.refl _ _)⟩
  · rw [show segTrimS S pos = S by unfold segTrimS; rw [if_neg (by omega)]]
    have Hd := hide hd
    clear hd
    go_enter Tryz.func146, Tryz.ntmps146
    go_wp2_with fail
    go_end0
    exact ⟨rfl, goes_same Hd.out (Below.refl _ _)⟩

def segSealE (S : SegD) (k : Int) : Int := if ¬ (1 ≤ k ∧ k ≤ 2147483647) then 1 else if k ≤ S.sealed then 7 else addE S (entN 115 k)
def segSealS (S : SegD) (k : Int) : SegD := if ¬ (1 ≤ k ∧ k ≤ 2147483647) then S else if k ≤ S.sealed then S else lastS S (entN 115 k)

set_option maxHeartbeats 4000000 in
set_option maxRecDepth 100000 in
theorem segSeal_calls (B : Nat) (m : SegM) (S : SegD) (k : Int) (w : World) (hd : IsSeg w B m S) (hB : B ≤ w.heap.size) (hp : Pow w) :
    Calls Tryz.prog 136 #[.pointer (some ⟨m.p, 0, none⟩), .int .i64 k] w fun x w' => x = .returned (.tuple #[.int .i64 (if segSealE S k = 0 then endS (segSealS S k) else 0), .int .i64 (segSealE S k)]) ∧ Goes B m (segSealS S k) w w' := by
  have b3 := hd.ok.sealed0
  have b4 := hd.ok.sealed1
  obtain ⟨_, _, -, -, hpw, -, -⟩ := hd.val
  have cw := (cells4 hpw).2.1
  clear hpw
  have q := hide (isEpoch_calls k)
  by_cases h0 : 1 ≤ k ∧ k ≤ 2147483647
  · rw [decide_eq_true h0] at q
    by_cases h1 : k ≤ S.sealed
    · rw [show segSealE S k = 7 by unfold segSealE; rw [if_neg (by omega), if_pos h1], show segSealS S k = S by unfold segSealS; rw [if_neg (by omega), if_pos h1], if_neg (by decide)]
      have Hd := hide hd
      clear hd
      go_enter Tryz.func136, Tryz.ntmps136
      go_wp2_with (go_at_call 118; refine (q.out _).mono ?_; rintro e w' ⟨rfl, hw'⟩; subst hw')
      go_ret2
      exact ⟨rfl, goes_same Hd.out (Below.refl _ _)⟩
    · rw [show segSealE S k = addE S (entN 115 k) by unfold segSealE; rw [if_neg (by omega), if_neg h1], show segSealS S k = lastS S (entN 115 k) by unfold segSealS; rw [if_neg (by omega), if_neg h1]]
      have u := hide (addLasting_calls B m S (entN 115 k) _ w hd hB (entN_is _ _ 115 k) (by unfold mayS entN; simp; omega) (entN_w (.inl rfl) (by omega) (by omega)) hp)
      have Hd := hide hd
      clear hd
      obtain ⟨E, hE⟩ : ∃ E, addE S (entN 115 k) = E := ⟨_, rfl⟩
      obtain ⟨S2, hS2⟩ : ∃ S2, lastS S (entN 115 k) = S2 := ⟨_, rfl⟩
      rw [hE, hS2] at u ⊢
      by_cases hE0 : E = 0
      · subst hE0
        rw [if_pos rfl]
        go_enter Tryz.func136, Tryz.ntmps136
        go_wp2_with (go_at_call 118; refine (q.out _).mono ?_; rintro e w' ⟨rfl, hw'⟩; subst hw')
        refine u.out.mono ?_
        rintro x w2 ⟨rfl, m2, hp2, hdp2, hc2, I2, T2, G2⟩
        have ue := hide (end_calls B m2 S2 w2 I2)
        rw [hp2] at ue
        have I := hide I2
        have HG := hide G2
        clear I2 G2 u cw
        go_wp2_with (go_at_call 186; refine ue.out.mono ?_; rintro e w' ⟨rfl, nq, hw'⟩; subst hw')
        go_ret2
        exact ⟨rfl, m2, hp2, hdp2, hc2, I.out.drews nq, T2.drewN nq, HG.out⟩
      · rw [if_neg hE0]
        have hE1 : (E != 0) = true := by simp [hE0]
        go_enter Tryz.func136, Tryz.ntmps136
        go_wp2_with (go_at_call 118; refine (q.out _).mono ?_; rintro e w' ⟨rfl, hw'⟩; subst hw')
        refine u.out.mono ?_
        rintro x w2 ⟨rfl, hg⟩
        go_wp2_with fail
        go_ret2
        exact ⟨rfl, hg⟩
  · rw [decide_eq_false h0] at q
    rw [show segSealE S k = 1 by unfold segSealE; rw [if_pos h0], show segSealS S k = S by unfold segSealS; rw [if_pos h0], if_neg (by decide)]
    have Hd := hide hd
    clear hd
    go_enter Tryz.func136, Tryz.ntmps136
    go_wp2_with (go_at_call 118; refine (q.out _).mono ?_; rintro e w' ⟨rfl, hw'⟩; subst hw')
    go_ret2
    exact ⟨rfl, goes_same Hd.out (Below.refl _ _)⟩

end Go.Proofs.YtjbjjfndkpcciaaGreatDoor

/- seg's Put. Own work; no statement. -/
set_option linter.unusedSimpArgs false
set_option linter.unusedVariables false
namespace Go.Proofs.YtjbjjfndkpcciaaGreatDoor
open Go.RowKit Go.Shelf Go.Sort

/-- What Put answers; what it makes of a segment. -/
def segPutE (S : SegD) (k pos : Int) (r : RecD) : Int :=
  if pos < 0 ∨ 2147483647 < pos ∨ ¬ (1 ≤ k ∧ k ≤ 2147483647) then 1 else if k ≤ S.sealed then 7 else if pos < S.trim then 8 else if isAt (poss S) pos = true then 5 else if checkR r 8 = 0 then addE S ⟨112, pos, r⟩ else checkR r 8
def segPutS (S : SegD) (k pos : Int) (r : RecD) : SegD :=
  if pos < 0 ∨ 2147483647 < pos ∨ ¬ (1 ≤ k ∧ k ≤ 2147483647) then S else if k ≤ S.sealed then S else if pos < S.trim then S else if isAt (poss S) pos = true then S else if checkR r 8 = 0 then addS S ⟨112, pos, r⟩ else S

set_option maxHeartbeats 8000000 in
set_option maxRecDepth 100000 in
theorem segPut_calls (B : Nat) (m : SegM) (S : SegD) (k pos : Int) (v : Value) (r : RecD) (w : World) (hd : IsSeg w B m S) (hB : B ≤ w.heap.size) (hv : IsRec w v r) (hl : r.dep.length ≤ 1099511627776) (hks : r.key.size ≤ 1099511627776) (hvs : r.val.size ≤ 1099511627776) (hp : Pow w) :
    Calls Tryz.prog 66 #[.pointer (some ⟨m.p, 0, none⟩), .int .i64 k, .int .i64 pos, v] w fun x w' => x = .returned (.int .i64 (segPutE S k pos r)) ∧ Goes B m (segPutS S k pos r) w w' := by
  obtain ⟨a, cap, rfl, hn⟩ := id hv
  have HB := box_below w (.cells #[.int .i64 r.site, .int .i64 r.seq, .slice a r.dep.length cap, .string r.key, .string r.val] 36)
  obtain ⟨W1, hW1⟩ : ∃ W1, w.alloc (.cells #[.int .i64 r.site, .int .i64 r.seq, .slice a r.dep.length cap, .string r.key, .string r.val] 36) = W1 := ⟨_, rfl⟩
  have x0 : W1.heap[w.heap.size]? = some (.cells #[.int .i64 r.site, .int .i64 r.seq, .slice a r.dep.length cap, .string r.key, .string r.val] 36 (0, 0)) := by rw [← hW1]; exact World.alloc_heap_new w _
  rw [hW1] at HB
  have hd1 := hd.keep HB
  obtain ⟨k0, k1, k2, k3, k4, -, -, -, -, -⟩ := cells5 x0
  have b1 := hd.ok.sealed0
  have b2 := hd.ok.sealed1
  have b3 := hd.ok.trim0
  have b4 := hd.ok.trim1
  have q := hide (isEpoch_calls k)
  have uh := hide (has_calls B m S pos W1 hd1)
  have uc := hide (fun W (h : Below W1.heap.size W1 W) => recCheck_calls _ r 8 W ((hv.below HB).below h) hl hks hvs)
  obtain ⟨_, _, -, -, hpw, -, -⟩ := hd1.val
  have cs := (cells4 hpw).2.1
  have ct := (cells4 hpw).2.2.1
  clear hpw
  obtain ⟨_, _, -, -, hpw, -, -⟩ := hd.val
  have cs' := (cells4 hpw).2.1
  have ct' := (cells4 hpw).2.2.1
  clear hpw
  have hlt := hd.lt
  have HW := hide hW1
  have Hd := hide hd
  have Hd1 := hide hd1
  have Hn := hide hn
  have X0 := hide x0
  clear hd hd1 hW1 hn hv x0
  by_cases h0 : pos < 0 ∨ 2147483647 < pos ∨ ¬ (1 ≤ k ∧ k ≤ 2147483647)
  · rw [show segPutE S k pos r = 1 by unfold segPutE; rw [if_pos h0], show segPutS S k pos r = S by unfold segPutS; rw [if_pos h0]]
    by_cases g0 : pos < 0
    · go_enter Tryz.func66, Tryz.ntmps66
      go_wp2_with fail
      rw [HW.out]
      go_ret
      exact ⟨rfl, goes_same Hd.out HB⟩
    · by_cases g1 : 2147483647 < pos
      · go_enter Tryz.func66, Tryz.ntmps66
        go_wp2_with fail
        rw [HW.out]
        go_ret
        exact ⟨rfl, goes_same Hd.out HB⟩
      · have g2 : ¬ (1 ≤ k ∧ k ≤ 2147483647) := by omega
        rw [decide_eq_false g2] at q
        go_enter Tryz.func66, Tryz.ntmps66
        go_wp2_with (go_at_call 118; refine (q.out _).mono ?_; rintro e w' ⟨rfl, hw'⟩; subst hw')
        rw [HW.out]
        go_ret
        exact ⟨rfl, goes_same Hd.out HB⟩
  · have g0 : 0 ≤ pos := by omega
    have g1 : pos ≤ 2147483647 := by omega
    have g2 : 1 ≤ k ∧ k ≤ 2147483647 := by omega
    rw [decide_eq_true g2] at q
    by_cases h1 : k ≤ S.sealed
    · rw [show segPutE S k pos r = 7 by unfold segPutE; rw [if_neg h0, if_pos h1], show segPutS S k pos r = S by unfold segPutS; rw [if_neg h0, if_pos h1]]
      go_enter Tryz.func66, Tryz.ntmps66
      go_wp2_with (go_at_call 118; refine (q.out _).mono ?_; rintro e w' ⟨rfl, hw'⟩; subst hw')
      rw [HW.out]
      go_ret
      exact ⟨rfl, goes_same Hd.out HB⟩
    · by_cases h2 : pos < S.trim
      · rw [show segPutE S k pos r = 8 by unfold segPutE; rw [if_neg h0, if_neg h1, if_pos h2], show segPutS S k pos r = S by unfold segPutS; rw [if_neg h0, if_neg h1, if_pos h2]]
        go_enter Tryz.func66, Tryz.ntmps66
        go_wp2_with (go_at_call 118; refine (q.out _).mono ?_; rintro e w' ⟨rfl, hw'⟩; subst hw')
        rw [HW.out]
        go_ret
        exact ⟨rfl, goes_same Hd.out HB⟩
      · by_cases h3 : isAt (poss S) pos = true
        · rw [show segPutE S k pos r = 5 by unfold segPutE; rw [if_neg h0, if_neg h1, if_neg h2, if_pos h3], show segPutS S k pos r = S by unfold segPutS; rw [if_neg h0, if_neg h1, if_neg h2, if_pos h3]]
          rw [h3] at uh
          go_enter Tryz.func66, Tryz.ntmps66
          go_wp2_with (first | (go_at_call 118; refine (q.out _).mono ?_; rintro e w' ⟨rfl, hw'⟩; subst hw') | (go_at_call 119; rw [HW.out]; refine uh.out.mono ?_; rintro e w' ⟨rfl, nq, hw'⟩; subst hw'))
          go_ret
          exact ⟨rfl, goes_same Hd.out (HB.trans ((drewsB W1 nq).mono HB.size))⟩
        · have h3' : isAt (poss S) pos = false := by simpa using h3
          rw [h3'] at uh
          obtain ⟨E, hE⟩ : ∃ E, segPutE S k pos r = E := ⟨_, rfl⟩
          obtain ⟨S2, hS2⟩ : ∃ S2, segPutS S k pos r = S2 := ⟨_, rfl⟩
          rw [hE, hS2]
          unfold segPutE at hE
          unfold segPutS at hS2
          rw [if_neg h0, if_neg h1, if_neg h2, if_neg h3] at hE hS2
          by_cases h4 : checkR r 8 = 0
          · rw [if_pos h4] at hE hS2
            rw [h4] at uc
            go_enter Tryz.func66, Tryz.ntmps66
            go_wp2_with (first | (go_at_call 118; refine (q.out _).mono ?_; rintro e w' ⟨rfl, hw'⟩; subst hw') | (go_at_call 119; rw [HW.out]; refine uh.out.mono ?_; rintro e w' ⟨rfl, nq, hw'⟩; subst hw'))
            refine (uc.out _ (drewsB W1 nq)).mono ?_
            rintro x w2 ⟨rfl, hb2⟩
            have B2 : Below W1.heap.size W1 w2 := (drewsB W1 nq).trans hb2
            have x2 := keepB X0.out B2
            obtain ⟨j0, j1, j2, j3, j4, -, -, -, -, -⟩ := cells5 x2
            have b := GoodR.b h4
            have uo := hide (owned_calls (.agg #[.int .i64 r.site, .int .i64 r.seq, .slice a r.dep.length cap, .string r.key, .string r.val]) r w2 ⟨a, cap, rfl, (Hn.out.below HB).below B2⟩ (by omega) hks hvs)
            clear k0 k1 k2 k3 k4 cs ct cs' ct' hb2 x2 uc uh q
            go_wp2_with fail
            refine uo.out.mono ?_
            rintro x w3 ⟨v3, rfl, ⟨vd, rfl, hown⟩, hb3⟩
            obtain ⟨a3, c3, rfl⟩ := ownsRow_slice hown
            have B3 : Below w.heap.size w w3 := HB.trans ((B2.trans (hb3.mono B2.size)).mono HB.size)
            have hs3 : w.heap.size ≤ w2.heap.size := Nat.le_trans HB.size B2.size
            have ua := hide (add_calls B m S ⟨112, pos, r⟩ _ w3 (Hd.out.keep B3) (by have := B3.size; omega) ⟨_, rfl, ownsRow_low hown (by have := Hd.out.cl; omega)⟩ (by unfold mayS; dsimp only; rw [if_pos rfl, h3']; simp; omega) ⟨.inl rfl, g0, g1, fun _ => h4, fun h => absurd rfl h⟩ (hp.below B3))
            rw [hE, hS2] at ua
            clear uo j0 j1 j2 j3 j4 hown
            go_wp2_with fail
            refine ua.out.mono ?_
            rintro x w4 ⟨rfl, hg⟩
            go_wp2_with fail
            go_ret
            exact ⟨rfl, Goes.of_below hg B3⟩
          · rw [if_neg h4] at hE hS2
            rw [hE] at uc h4
            subst hS2
            have hE1 : (E != 0) = true := by simp [h4]
            go_enter Tryz.func66, Tryz.ntmps66
            go_wp2_with (first | (go_at_call 118; refine (q.out _).mono ?_; rintro e w' ⟨rfl, hw'⟩; subst hw') | (go_at_call 119; rw [HW.out]; refine uh.out.mono ?_; rintro e w' ⟨rfl, nq, hw'⟩; subst hw'))
            refine (uc.out _ (drewsB W1 nq)).mono ?_
            rintro x w2 ⟨rfl, hb2⟩
            have B2 : Below W1.heap.size W1 w2 := (drewsB W1 nq).trans hb2
            clear uc uh q
            go_wp2_with fail
            go_ret
            exact ⟨rfl, goes_same Hd.out (HB.trans (B2.mono HB.size))⟩

end Go.Proofs.YtjbjjfndkpcciaaGreatDoor

/- A segment of a disk's lines: pure laws; Lines, what it goes over lying apart. Own work; no statement. -/
set_option linter.unusedSimpArgs false
set_option linter.unusedVariables false
namespace Go.Proofs.YtjbjjfndkpcciaaGreatDoor
open Go.RowKit Go.Shelf Go.Sort

/-- Lines, one by one, let hold; how many there are. -/
def runE (S : SegD) : List ByteArray → Nat → SegD × Nat
  | [], k => (S, k)
  | l :: r, k => match parseE l.data.toList with
    | none => (S, k)
    | some e => if mayS S e = true then runE (applyS S e k) r (k + 1) else (S, k)

/-- What is left of a disk whose first so many lines are good. -/
def openD (D : DiskD) (good : Nat) : DiskD := if good < D.lines.length then ⟨D.room, D.lines.take good, good⟩ else D
def emptyS (D : DiskD) : SegD := ⟨D, 0, 0, []⟩
/-- A disk, opened. -/
def openS (D : DiskD) : SegD := { (runE (emptyS D) D.lines 0).1 with D := openD D (runE (emptyS D) D.lines 0).2 }

theorem emptyS_ok (D : DiskD) : (emptyS D).ok := ⟨List.Pairwise.nil, fun x hx => (by cases hx), Int.le_refl _, (by decide : (0 : Int) ≤ 2147483647), Int.le_refl _, (by decide : (0 : Int) ≤ 2147483647), Nat.zero_le _⟩

theorem numL_range (l : List UInt8) (h : (numL l).2 = true) : 0 ≤ (numL l).1 ∧ (numL l).1 ≤ 2147483647 := by
  unfold numL at h ⊢
  split
  · rename_i hc
    refine ⟨?_, hc.2⟩
    have := decToM_val (m := 2147483647) (by omega) l 0 (decOk_parts hc.1).2.2 (Int.le_refl _)
    rw [show min (0 : Int) (2147483647 + 1) = 0 by omega] at this
    dsimp only
    rw [this]
    have h0 := valTo_ge l 0 (decOk_parts hc.1).2.2 (Int.le_refl _)
    omega
  · rename_i hc
    rw [if_neg hc] at h
    cases h

theorem parseR_good {s : List UInt8} (h : (parseR s).2 = 0) : GoodR (parseR s).1 := by
  unfold parseR at h ⊢
  unfold GoodR
  split
  · rename_i p hp
    rw [hp] at h
    dsimp only at h ⊢
    unfold parseP at h ⊢
    repeat' split at h
    all_goals first | (rename_i h1 h2 h3; rw [if_pos h1, if_pos h2, if_pos h3]; exact h3) | (exfalso; simp_all; done)
  · rename_i hp
    rw [hp] at h
    exact absurd h (by decide +kernel : ¬ (parseP false [] [] [] [] []).2 = 0)

theorem parseE_ok {l : List UInt8} {e : EntD} (h : parseE l = some e) : (e.sign = 112 ∨ e.sign = 115 ∨ e.sign = 99 ∨ e.sign = 116) ∧ 0 ≤ e.n ∧ e.n ≤ 2147483647 ∧ (e.sign = 112 → GoodR e.r) ∧ (e.sign ≠ 112 → e.r = zeroR) := by
  rw [parseE_eq] at h
  have hnum : ∀ c m, numE c m = some e → e.sign = c ∧ 0 ≤ e.n ∧ e.n ≤ 2147483647 ∧ e.r = zeroR := by
    intro c m hm
    unfold numE at hm
    split at hm
    · rename_i hc
      cases hm
      exact ⟨rfl, (numL_range m hc).1, (numL_range m hc).2, rfl⟩
    · cases hm
  split at h
  · unfold putE at h
    split at h
    · rename_i hc
      cases h
      exact ⟨.inl rfl, (numL_range _ hc.1).1, (numL_range _ hc.1).2, fun _ => parseR_good hc.2, fun hn => absurd rfl hn⟩
    · cases h
  · split at h
    · obtain ⟨h1, h2, h3, h4⟩ := hnum _ _ h
      exact ⟨.inr (.inl h1), h2, h3, fun hs => (by rw [h1] at hs; cases hs), fun _ => h4⟩
    · split at h
      · obtain ⟨h1, h2, h3, h4⟩ := hnum _ _ h
        exact ⟨.inr (.inr (.inl h1)), h2, h3, fun hs => (by rw [h1] at hs; cases hs), fun _ => h4⟩
      · split at h
        · obtain ⟨h1, h2, h3, h4⟩ := hnum _ _ h
          exact ⟨.inr (.inr (.inr h1)), h2, h3, fun hs => (by rw [h1] at hs; cases hs), fun _ => h4⟩
        · cases h

theorem applyS_D (S : SegD) (e : EntD) (k : Nat) : (applyS S e k).D = S.D := by
  unfold applyS
  repeat' split
  all_goals rfl
theorem applyS_len (S : SegD) (e : EntD) (k : Nat) : (applyS S e k).slots.length ≤ S.slots.length + 1 := by
  have hle : belowN (poss S) e.n ≤ S.slots.length := by have := belowN_le (poss S) e.n; rw [poss_length] at this; exact this
  unfold applyS
  repeat' split
  · dsimp only
    rw [insL_length _ _ _ hle]
    omega
  all_goals simp
  all_goals omega

/-- What the walk over the lines has found by the k-th. -/
structure OpenAt (D : DiskD) (k : Nat) (S : SegD) : Prop where
  same : S.D = D
  len : S.slots.length ≤ k
  run : runE (emptyS D) D.lines 0 = runE S (D.lines.drop k) k

theorem openAt_start (D : DiskD) : OpenAt D 0 (emptyS D) := ⟨rfl, Nat.le_refl _, by simp⟩
theorem openAt_step {D : DiskD} {k : Nat} {S : SegD} {e : EntD} (h : OpenAt D k S) (hk : k < D.lines.length) (he : parseE (D.lines[k]).data.toList = some e) (hm : mayS S e = true) : OpenAt D (k + 1) (applyS S e k) := by
  refine ⟨(applyS_D _ _ _).trans h.same, by have := applyS_len S e k; have := h.len; omega, ?_⟩
  rw [h.run, List.drop_eq_getElem_cons hk, runE, he]
  dsimp only
  rw [if_pos hm]
theorem openAt_none {D : DiskD} {k : Nat} {S : SegD} (h : OpenAt D k S) (hk : k < D.lines.length) (he : parseE (D.lines[k]).data.toList = none) : runE (emptyS D) D.lines 0 = (S, k) := by
  rw [h.run, List.drop_eq_getElem_cons hk, runE, he]
theorem openAt_not {D : DiskD} {k : Nat} {S : SegD} {e : EntD} (h : OpenAt D k S) (hk : k < D.lines.length) (he : parseE (D.lines[k]).data.toList = some e) (hm : mayS S e = false) : runE (emptyS D) D.lines 0 = (S, k) := by
  rw [h.run, List.drop_eq_getElem_cons hk, runE, he]
  dsimp only
  rw [if_neg (by rw [hm]; decide)]
theorem openAt_end {D : DiskD} {S : SegD} (h : OpenAt D D.lines.length S) : runE (emptyS D) D.lines 0 = (S, D.lines.length) := by
  rw [h.run, List.drop_eq_nil_of_le (Nat.le_refl _), runE]

set_option maxHeartbeats 2000000 in
theorem diskLines_new (B p : Nat) (g : Option Nat) (D : DiskD) (w : World) (hd : IsDisk w B p g D) :
    Calls Tryz.prog 96 #[.pointer (some ⟨p, 0, none⟩)] w fun e w' => ∃ b v, e = .returned (.func (.func 159) #[] #[.pointer (some ⟨b, 0, none⟩)]) ∧ w.heap.size ≤ b ∧ w'.heap[b]? = some (.cells #[v] 127 (0, 0)) ∧ w'.ownsRow w.heap.size 9 1 v D.lines.length (D.lines.map Value.string) ∧ Below w.heap.size w w' := by
  have hmf : ∀ (fn : Fn) (first cap : Array Value) (w : World), (Instr.makeFunc fn first cap).run Tryz.prog w = .ok (.func fn first cap) w := fun _ _ _ _ => rfl
  obtain ⟨a, cap, c0, c1, c2, c3, hf, hv, hr, hp⟩ := hd.open
  have hl := hd.len
  have C := hide (cloneStrs_calls B _ D.lines w hr (by omega))
  clear hd hr hp hv hf
  go_enter Tryz.func96, Tryz.ntmps96
  go_wp2_with (go_at_call 93; refine C.out.mono ?_; rintro e w1 ⟨v', rfl, hown, hB1⟩; obtain ⟨a', cap', rfl⟩ := ownsRow_slice hown)
  go_ret
  exact ⟨w1.heap.size, .slice a' D.lines.length cap', rfl, hB1.size, World.alloc_heap_new w1 _, World.ownsRow.alloc hown _, hB1.alloc hB1.size _⟩

end Go.Proofs.YtjbjjfndkpcciaaGreatDoor
