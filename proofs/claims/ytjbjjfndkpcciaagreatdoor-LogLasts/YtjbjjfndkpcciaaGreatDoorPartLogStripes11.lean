/- Own work: the parts S19, S12, S20, S21, S22, S23, M1 of the proof, laid together. -/
import Derived.Test.YtjbjjfndkpcciaaGreatDoorPartLogStripes10
import Derived.Test.YtjbjjfndkpcciaaGreatDoorPartLogStripes9
import Derived.LaidEqlPtr
import Derived.Test.YtjbjjfndkpcciaaGreatDoorPartLogStripes5
import Derived.Test.YtjbjjfndkpcciaaGreatDoorPartLogStripes2
/- The laws' Rows over any sequence of numbers and records: what it tells, the records too. Own work; no statement. -/
set_option linter.unusedSimpArgs false
set_option linter.unusedVariables false
namespace Go.Proofs.YtjbjjfndkpcciaaGreatDoor
open Go.RowKit Go.Shelf Go.Sort

attribute [local go_sem] Oper.semAt_some

/-- The records' numbers lie in rows of their own, none of which is va's. -/
def DepsIn (o : Nat) (W : World) (va : Value) (l : List Pl) : Prop := ∀ p ∈ l, W.ownsRow (o + 6) 3 1 p.vd p.r.dep.length (p.r.dep.map (Value.int .i64)) ∧ ∀ k, p.vd.ownBlock = some k → va.ownBlock ≠ some k
theorem DepsIn.keep {o : Nat} {W W' : World} {va : Value} {l : List Pl} (h : DepsIn o W va l) (hk : ∀ (k : Nat) (c : Array Value) (t : TypeId) (f : Nat × Nat), W.heap[k]? = some (.cells c t f) → W'.heap[k]? = W.heap[k]?) : DepsIn o W' va l :=
  fun p hp => ⟨row_keep hk (h p hp).1, (h p hp).2⟩

theorem flat5 : ∀ (pl : List Pl) (k j : Nat) (h : k < pl.length), j < 5 → (pl.flatMap Pl.cells5)[k * 5 + j]? = (pl[k]).cells5[j]?
  | [], _, _, h, _ => absurd h (by simp)
  | p :: pl, 0, j, _, hj => by
    rw [List.flatMap_cons, List.getElem?_append_left (by simp [Pl.cells5]; omega)]
    simp
  | p :: pl, k + 1, j, h, hj => by
    rw [List.flatMap_cons, List.getElem?_append_right (by simp [Pl.cells5]; omega)]
    have e : (k + 1) * 5 + j - p.cells5.length = k * 5 + j := by simp [Pl.cells5]; omega
    rw [e, flat5 pl k j (by simpa using h) hj]
    simp

/-- A row of records, each one's numbers in a row of their own, read. -/
theorem recs_of_row {w : World} {o : Nat} {v : Value} {l : List Pl} (h : w.ownsRow o 36 5 v l.length (l.flatMap Pl.cells5)) (hd : ∀ p ∈ l, w.ownsRow o 3 1 p.vd p.r.dep.length (p.r.dep.map (Value.int .i64))) : IsRecs w v (l.map (·.r)) := by
  obtain ⟨a, cap, rfl⟩ := ownsRow_slice h
  refine ⟨a, cap, by simp, fun t ht => ?_⟩
  have ht' : t < l.length := by simpa using ht
  rcases h.2 with ⟨e1, e2⟩ | ⟨g, cap', cur, e1, -⟩
  · omega
  · simp only [Value.slice.injEq] at e1
    obtain ⟨rfl, -, rfl⟩ := e1
    have hdep := hd _ (List.getElem_mem ht')
    have hcell : ∀ j, j < 5 → w.cell? ⟨g, t * 5 + j, none⟩ = (l[t]).cells5[j]? := fun j hj => by
      rw [h.cellAt (t * 5 + j) (by omega)]
      exact flat5 l t j ht' hj
    have c0 := hcell 0 (by omega)
    have c1 := hcell 1 (by omega)
    have c2 := hcell 2 (by omega)
    have c3 := hcell 3 (by omega)
    have c4 := hcell 4 (by omega)
    simp only [Pl.cells5, List.getElem?_cons_zero, List.getElem?_cons_succ, Nat.add_zero] at c0 c1 c2 c3 c4
    obtain ⟨da, dcap, hda⟩ := ownsRow_slice hdep
    rw [hda] at c2 hdep
    refine ⟨g, 0, rfl, da, dcap, ?_⟩
    simp only [List.getElem_map, Nat.zero_add]
    exact ⟨c0, c1, c2, c3, c4, IsNums.of_row hdep⟩

set_option maxRecDepth 100000 in
set_option maxHeartbeats 4000000 in
theorem rowsG_calls (gf : Nat) (lb : Array Value) (hi0 : Nat) (pl : List (Int × RecD)) (most : Nat) (w : World) (hhi : hi0 ≤ w.heap.size) (heg : ∀ args w, (callFunc gf args).run Tryz.prog w = .ok (.enter gf args) w)
    (hseq : ∀ w', Below w.heap.size w w' → SeqR 4 Tryz.prog gf lb encPl (KeepsSpan 0 hi0) GivesPl (fun ys => ys.map (fun p => (p.i, p.r)) = pl) (fun pre => pre.map (fun p => (p.i, p.r)) <+: pl) pl.length w') (hl : pl.length ≤ most) (hm : most ≤ 1048576) :
    Calls Tryz.prog 30 #[.func (.func gf) #[] lb, .int .i64 (most : Int)] w fun e w' => ∃ va vb, e = .returned (.tuple #[va, vb, .bool true]) ∧
      IsNums .i64 w' va (pl.map (·.1)) ∧ IsRecs w' vb (pl.map (·.2)) ∧ Below w.heap.size w w' := by
  have heq : ∀ (fn : Fn) (first cap : Array Value) (w : World), (binOp .eql 64 (.func fn first cap) .nilFunc).run Tryz.prog w = .ok (.bool false) w := fun _ _ _ _ => by kernel_rfl
  obtain ⟨i0, hi, hz0, hz1, hz2⟩ := info_parts Tryz.info3
  obtain ⟨j0, ji, jz0, jz1, jz2⟩ := info_parts Tryz.info36
  refine (callsIn_wide (n := 5)).1 ?_
  refine callsIn_of_wp_marks Tryz.func30 rfl trivial ?_ rfl
  simp only [Tryz.ntmps30, List.size_toArray, List.length_cons, List.length_nil, Nat.reduceAdd, Nat.reduceSub, Array.replicate_succ, Array.replicate_zero, List.push_toArray, List.append_toArray, List.nil_append, List.cons_append]
  gi_wp2
  have b0 := Boxed.new w 3 (.int .i64 (most : Int))
  obtain ⟨w1', hw1⟩ : ∃ w', w.alloc (.cells #[.int .i64 (most : Int)] 3) = w' := ⟨_, rfl⟩
  have s1 : w1'.heap.size = w.heap.size + 1 := by rw [← hw1]; simp
  have b1 := Boxed.new w1' 33 (.slice none 0 0)
  obtain ⟨w2', hw2⟩ : ∃ w', w1'.alloc (.cells #[.slice none 0 0] 33) = w' := ⟨_, rfl⟩
  have s2 : w2'.heap.size = w.heap.size + 2 := by rw [← hw2]; simp [s1]
  have b2 := Boxed.new w2' 60 (.slice none 0 0)
  obtain ⟨w3', hw3⟩ : ∃ w', w2'.alloc (.cells #[.slice none 0 0] 60) = w' := ⟨_, rfl⟩
  have s3 : w3'.heap.size = w.heap.size + 3 := by rw [← hw3]; simp [s2]
  have b3 := Boxed.new w3' 4 (.bool false)
  obtain ⟨w4', hw4⟩ : ∃ w', w3'.alloc (.cells #[.bool false] 4) = w' := ⟨_, rfl⟩
  have s4 : w4'.heap.size = w.heap.size + 4 := by rw [← hw4]; simp [s3]
  have b4 := Boxed.new w4' 33 (.slice none 0 0)
  obtain ⟨w5', hw5⟩ : ∃ w', w4'.alloc (.cells #[.slice none 0 0] 33) = w' := ⟨_, rfl⟩
  have s5 : w5'.heap.size = w.heap.size + 5 := by rw [← hw5]; simp [s4]
  have b5 := Boxed.new w5' 60 (.slice none 0 0)
  obtain ⟨w6', hw6⟩ : ∃ w', w5'.alloc (.cells #[.slice none 0 0] 60) = w' := ⟨_, rfl⟩
  have s6 : w6'.heap.size = w.heap.size + 6 := by rw [← hw6]; simp [s5]
  rw [hw1] at b0
  rw [hw2] at b1
  rw [hw3] at b2
  rw [hw4] at b3
  rw [hw5] at b4
  rw [hw6] at b5
  replace b0 : Boxed w6' w.heap.size 3 (.int .i64 (most : Int)) := by rw [← hw6, ← hw5, ← hw4, ← hw3, ← hw2]; exact (((((b0).alloc _).alloc _).alloc _).alloc _).alloc _
  replace b1 : Boxed w6' (w.heap.size + 1) 33 (.slice none 0 0) := by rw [s1] at b1; rw [← hw6, ← hw5, ← hw4, ← hw3]; exact ((((b1).alloc _).alloc _).alloc _).alloc _
  replace b2 : Boxed w6' (w.heap.size + 2) 60 (.slice none 0 0) := by rw [s2] at b2; rw [← hw6, ← hw5, ← hw4]; exact (((b2).alloc _).alloc _).alloc _
  replace b3 : Boxed w6' (w.heap.size + 3) 4 (.bool false) := by rw [s3] at b3; rw [← hw6, ← hw5]; exact ((b3).alloc _).alloc _
  replace b4 : Boxed w6' (w.heap.size + 4) 33 (.slice none 0 0) := by rw [s4] at b4; rw [← hw6]; exact (b4).alloc _
  replace b5 : Boxed w6' (w.heap.size + 5) 60 (.slice none 0 0) := by rw [s5] at b5; exact b5
  have hB6 : Below w.heap.size w w6' := by
    rw [← hw6, ← hw5, ← hw4, ← hw3, ← hw2, ← hw1]
    exact ((((((Below.refl _ w).alloc (Nat.le_refl _) _).alloc (by simp) _).alloc (by simp; omega) _).alloc (by simp; omega) _).alloc (by simp; omega) _).alloc (by simp; omega) _
  rw [hw1, hw2, hw3, hw4, hw5, hw6]
  clear hw1 hw2 hw3 hw4 hw5 hw6 s1 s2 s3 s4 s5 w1' w2' w3' w4' w5'
  simp only [Nat.add_assoc, Nat.reduceAdd]
  refine range_lawR (by decide) (gf := gf) (lb := lb) rfl heg
    (hseq w6' hB6) keepsSpan_t (keepsSpan_b (by omega)) ?hE (fun _ => rfl)
    (fun pre W => (∃ va vb, InRows w.heap.size most pre pre W va vb ∧ DepsIn w.heap.size W va pre) ∧ Below w.heap.size w W)
    (fun _ _ _ => False)
    (OwnFrom.and (Own.from (fun s X Y row hs hg hr => by
      obtain ⟨va, vb, h, h'⟩ := hs
      exact ⟨va, vb, h.keep fun k c t f e => own_keeps hg hr e, h'.keep fun k c t f e => own_keeps hg hr e⟩) _) (ownFrom_below (Nat.le_refl _) (by omega)))
    (fun _ _ _ _ _ hs _ _ => hs)
    ⟨⟨_, _, ⟨b0, b1, b2, b3, b4, b5, World.ownsRow_nil _ _ _ _, World.ownsRow_nil _ _ _ _⟩, fun p hp => (by cases hp)⟩, hB6⟩
    (fun x A a' W => ∃ Bx va vc, Below A.heap.size A W ∧ x.vd = .slice va x.r.dep.length vc ∧ A.heap.size ≤ Bx ∧ W.ownsRow A.heap.size 3 1 x.vd x.r.dep.length (x.r.dep.map (Value.int .i64)) ∧ W.heap[Bx]? = some (.cells #[.int .i64 x.r.site, .int .i64 x.r.seq, x.vd, .string x.r.key, .string x.r.val] 36 (0, 0)) ∧ a' = { tmps := #[.func (.func gf) #[] lb, .int .i64 (most : Int), undef, .pointer (some ⟨w.heap.size, 0, none⟩), .pointer (some ⟨w.heap.size + 1, 0, none⟩), .pointer (some ⟨w.heap.size + 2, 0, none⟩), .pointer (some ⟨w.heap.size + 3, 0, none⟩), .pointer (some ⟨w.heap.size + 4, 0, none⟩), .pointer (some ⟨w.heap.size + 5, 0, none⟩), .int .i64 x.i, .pointer (some ⟨Bx, 0, none⟩), .func (.func gf) #[] lb, .bool false, .func (.func gf) #[] lb, .int .i64 x.i, .agg #[.int .i64 x.r.site, .int .i64 x.r.seq, x.vd, .string x.r.key, .string x.r.val], undef, undef, undef, undef, undef, undef, undef, undef, undef, undef, undef, undef, undef, undef, undef, undef], defers := [] })
    ?hAp ?assign ?body ?done ?stop
  case hE => exact fun x A W h => keepsFrom_below h.1
  case hAp =>
    rintro x A a' W l o o' ⟨Bx, va, vc, h1, h2, h3, h6, h4, h5⟩ _ hAl hWl ho
    refine ⟨Bx, va, vc, below_put h1, h2, by simpa [World.putObj] using h3, ?_, ?_, h5⟩
    · rw [show (A.putObj l o').heap.size = A.heap.size by simp [World.putObj]]
      refine row_keep (fun k c t f e => ?_) h6
      have hne : l ≠ k := by
        rintro rfl
        rw [e] at hWl
        cases hWl
        cases ho
      unfold World.putObj
      simp only [Array.getElem?_setIfInBounds]
      rw [if_neg hne]
    have hne : l ≠ Bx := by
      intro e
      rw [e, h4] at hWl
      cases hWl
      cases ho
    unfold World.putObj
    simp only [Array.getElem?_setIfInBounds]
    rw [if_neg hne]
    exact h4
  case assign =>
    clear b0 b1 b2 b3 b4 b5
    rintro l pre ⟨xi, ⟨site, seq, dep, key, val⟩, vd⟩ A W K hI hE hlt hK
    have hE2 := hE.2.1
    have hE1 := hE.1
    dsimp only [encPl] at *
    obtain ⟨va, vc, rfl⟩ := ownsRow_slice hE2
    have HE2 := hide hE2
    clear hE
    replace hK := hide hK
    have hz1 := hI.2.size
    have hz2' := hE1.size
    have HE1 := hide hE1
    clear hE1 hI hE2
    gi_wp2
    exact hK.out _ _ ⟨W.heap.size, va, vc, HE1.out.alloc HE1.out.size _, rfl, HE1.out.size, World.ownsRow.alloc HE2.out _, World.alloc_heap_new W _, rfl⟩ (keepsFrom_below (box_below W _)) (KeepsSpan.of_below (box_below W _) (by omega))
  case body =>
    clear b0 b1 b2 b3 b4 b5
    rintro lp pre x A a' W ⟨⟨va0, vb0, hin0, hdp0⟩, hBA⟩ ⟨Bx, va, vc, hAW, hvd, hBx, hxr, hbx, rfl⟩ hlt
    have hin := hin0.below hAW
    have hB := hBA.trans (hAW.mono hBA.size)
    have hA6 := hin0.b.lt
    have hbxl := ltB hbx
    have hdp : Hid (DepsIn w.heap.size W va0 (pre ++ [x])) := by
      intro p hp
      rcases List.mem_append.1 hp with h1 | h1
      · exact ⟨own_below (hdp0 p h1).1 hAW, (hdp0 p h1).2⟩
      · obtain rfl : p = x := by simpa using h1
        refine ⟨ownsRow_low hxr (by omega), fun k hk e => ?_⟩
        have q1 := (hxr.lt k hk).1
        have q2 := (hin0.ra.lt k e).2
        omega
    have nra : va0.ownBlock ≠ some Bx := fun e => by have := (hin0.ra.lt Bx e).2; omega
    have nrb : vb0.ownBlock ≠ some Bx := fun e => by have := (hin0.rb.lt Bx e).2; omega
    have hvd3 : ∀ u ∈ [Value.int .i64 x.r.site, .int .i64 x.r.seq, .slice va x.r.dep.length vc, .string x.r.key, .string x.r.val], u.oneCell' = true := by
      have := five_one hvd
      unfold Pl.cells5 at this
      rwa [hvd] at this
    have hc5 := hide (show x.cells5 = [Value.int .i64 x.r.site, .int .i64 x.r.seq, .slice va x.r.dep.length vc, .string x.r.key, .string x.r.val] by unfold Pl.cells5; rw [hvd])
    rw [hvd] at hbx ⊢
    obtain ⟨pa, ca, rfl⟩ := ownsRow_slice hin.ra
    obtain ⟨pb, cb, rfl⟩ := ownsRow_slice hin.rb
    have y0 := cell_at hbx 0
    have y1 := cell_at hbx 1
    have y2 := cell_at hbx 2
    have y3 := cell_at hbx 3
    have y4 := cell_at hbx 4
    simp only [List.getElem?_toArray, List.getElem?_cons_zero, List.getElem?_cons_succ] at y0 y1 y2 y3 y4
    have c1 := hin.a.cell
    have c2 := hin.b.cell
    have c3 := hin.m.cell
    have hlt2 : (pre.length : Int) < (most : Int) := by omega
    have hbs := hB.size
    have hW6 := hin.b.lt
    have Hin := hide hin
    have Hbx := hide hbx
    have HB := hide hB
    have Hvd := hide hvd
    clear hin hbx hB hin0 hAW hvd hdp0 hxr
    gi_wp2_with (first
      | (gi_at_builtin; refine wpListIn_append_own_at _ rfl (.tmp 22) _ 33 rfl (w.heap.size + 6) 3 i0 (.int .i64 0) 1 8 Tryz.underlying33 hi hz0 hz1 hz2 rfl (by decide) _ _ _ rfl (World.ownsRow.alloc Hin.out.ra _) ⟨_, 0, none⟩ 1 1 [.int .i64 x.i] rfl rfl (cell_one_at (by simp)) (by intro u hu; simp at hu; subst hu; rfl) (by unfold maxLen; omega) (by omega) (by simp; omega) ?_; intro v1 w1 hown1 hgrow1 _ hat1; obtain ⟨g1, cap1, rfl⟩ := ownsRow_succ hown1; obtain ⟨bx1, hin1, k1, o1, l1⟩ := Hin.out.appA (p := x) hown1 hgrow1; have d1 := bx1.cell; have f1 := bx1.frozen; have d2 := hin1.b.cell; have hbx1 := (o1 Bx hbxl (by omega) nra).trans Hbx.out; have q0 := cell_at hbx1 0; have q1 := cell_at hbx1 1; have q2 := cell_at hbx1 2; have q3 := cell_at hbx1 3; have q4 := cell_at hbx1 4; simp only [List.getElem?_toArray, List.getElem?_cons_zero, List.getElem?_cons_succ] at q0 q1 q2 q3 q4; have hs1 := k1.size; rw [size_set] at hs1; have Hin1 := hide hin1; have Hl1 := hide l1; have Ho1 := hide o1; have Hat1 := hide hat1; clear hgrow1 hat1 hown1 hin1 l1 o1 hbx1)
      | (gi_at_builtin; refine wpListIn_append_own_at _ rfl (.tmp 26) _ 60 rfl (w.heap.size + 6) 36 j0 _ 5 72 Tryz.underlying60 ji jz0 jz1 jz2 rfl (by decide) _ _ _ rfl (World.ownsRow.alloc Hin1.out.rb _) ⟨_, 0, none⟩ 1 1 [.int .i64 x.r.site, .int .i64 x.r.seq, .slice va x.r.dep.length vc, .string x.r.key, .string x.r.val] rfl rfl (cells_new (by simp)) (by intro u hu; exact hvd3 u hu) (by unfold maxLen; omega) (by omega) (by simp; omega) ?_; intro v2 w2 hown2 hgrow2 _ hat2; obtain ⟨g2, cap2, rfl⟩ := ownsRow_succ hown2; obtain ⟨bx2, hin2, k2, o2, l2⟩ := Hin1.out.appB (p := x) (by rw [hc5.out]; exact hown2) hgrow2; have e1 := bx2.cell; have f2 := bx2.frozen; clear hgrow2 hat2 hown2))
    have hB2 := l2 w.heap.size w (by omega) (Hl1.out w.heap.size w (by omega) HB.out)
    refine ⟨(k1.trans k2).from _, fun k h1 h2 => ?_, ⟨_, _, hin2, fun p hp => ?_⟩, hB2⟩
    · have hk : k < w.heap.size := by omega
      rw [hB2.block k hk, HB.out.block k hk]
    · obtain ⟨q1, q2⟩ := hdp.out p hp
      have ho1 := Ho1.out
      have hn : ∀ k, p.vd.ownBlock = some k → (Value.slice (some ⟨g1, 0, none⟩) (pre.length + 1) cap1).ownBlock ≠ some k := fun k hk e => by
        rcases Hat1.out with h3 | h3
        · exact q2 k hk (h3.symm.trans e)
        · have h4 : some (W.alloc _).heap.size = some k := h3.symm.trans e
          have h5 := (q1.lt k hk).2
          simp at h4
          omega
      refine ⟨ownsRow_of_heap q1 fun k hk => ?_, hn⟩
      have h5 := q1.lt k hk
      have hrb := Hin1.out.rb
      have q1' : (w1.setCell ⟨w.heap.size + 4, 0, none⟩ (.slice (some ⟨g1, 0, none⟩) (pre.length + 1) cap1)).ownsRow (w.heap.size + 6) 3 1 p.vd p.r.dep.length (p.r.dep.map (Value.int .i64)) := ownsRow_of_heap q1 fun k hk => ho1 k (q1.lt k hk).2 (by have := (q1.lt k hk).1; omega) (q2 k hk)
      have h7 := (q1'.lt k hk).2
      exact (o2 k h7 (by omega) (fun e => rows_apart (by decide) q1' hrb k hk e)).trans (ho1 k h5.2 (by omega) (q2 k hk))
  case done =>
    clear b0 b1 b2 b3 b4 b5
    rintro D ys W hD hys ⟨⟨va, vb, h, hdp⟩, hB⟩ hK
    have hlen : ys.length = pl.length := by have := congrArg List.length hys; simpa using this
    have hmap : ys.map (·.i) = pl.map (·.1) := by have := congrArg (List.map Prod.fst) hys; simpa [List.map_map, Function.comp_def] using this
    have hmap2 : ys.map (·.r) = pl.map (·.2) := by have := congrArg (List.map Prod.snd) hys; simpa [List.map_map, Function.comp_def] using this
    have Hdp := hide hdp
    have Hmap2 := hide hmap2
    obtain ⟨pa, ca, rfl⟩ := ownsRow_slice h.ra
    obtain ⟨pb, cb, rfl⟩ := ownsRow_slice h.rb
    have c1 := h.a.cell
    have c2 := h.b.cell
    have c4 := h.r1.cell
    have c5 := h.r2.cell
    have c6 := h.r3.cell
    have f4 := h.r1.frozen
    have f5 := h.r2.frozen
    have f6 := h.r3.frozen
    have Hlen := hide hlen
    have Hmap := hide hmap
    have Hh := hide h
    have HB := hide hB
    clear h hB hlen hmap hys hdp hmap2
    gi_wp2
    gi_region
    obtain ⟨va, hva⟩ : ∃ va, Value.slice pa ys.length ca = va := ⟨_, rfl⟩
    obtain ⟨vb, hvb⟩ : ∃ vb, Value.slice pb ys.length cb = vb := ⟨_, rfl⟩
    rw [hva, hvb] at Hh ⊢
    have hh := Hh.out
    obtain ⟨W3, hW3⟩ : ∃ W3, (((W.setCell ⟨w.heap.size + 1, 0, none⟩ va).setCell ⟨w.heap.size + 2, 0, none⟩ vb).setCell ⟨w.heap.size + 3, 0, none⟩ (.bool true)).drew = W3 := ⟨_, rfl⟩
    have hK3 : W3.heap[D]? = some (.deferred (some [])) := by
      rw [← hW3]
      exact (KeepsOthers.setCell _ _ _).same D _ ((KeepsOthers.setCell _ _ _).same D _ ((KeepsOthers.setCell _ _ _).same D _ hK rfl) rfl) rfl
    have hother : ∀ k, k ≠ w.heap.size + 1 → k ≠ w.heap.size + 2 → k ≠ w.heap.size + 3 → W3.heap[k]? = W.heap[k]? := by
      intro k h1 h2 h3
      rw [← hW3]
      exact (Below.heap_setCell _ _ _ _ h3).trans ((Below.heap_setCell _ _ _ _ h2).trans (Below.heap_setCell _ _ _ _ h1))
    have R1 : Boxed W3 (w.heap.size + 1) 33 va := by
      rw [← hW3]
      exact boxed_of_heap (boxed_of_heap (hh.r1.set va) (Below.heap_setCell _ _ _ _ (show w.heap.size + 1 ≠ w.heap.size + 2 by omega))) (Below.heap_setCell _ _ _ _ (show w.heap.size + 1 ≠ w.heap.size + 3 by omega))
    have R2 : Boxed W3 (w.heap.size + 2) 60 vb := by
      rw [← hW3]
      exact boxed_of_heap ((boxed_of_heap hh.r2 (Below.heap_setCell _ _ _ _ (show w.heap.size + 2 ≠ w.heap.size + 1 by omega))).set vb) (Below.heap_setCell _ _ _ _ (show w.heap.size + 2 ≠ w.heap.size + 3 by omega))
    have R3 : Boxed W3 (w.heap.size + 3) 4 (.bool true) := by
      rw [← hW3]
      exact (boxed_of_heap (boxed_of_heap hh.r3 (Below.heap_setCell _ _ _ _ (show w.heap.size + 3 ≠ w.heap.size + 1 by omega))) (Below.heap_setCell _ _ _ _ (show w.heap.size + 3 ≠ w.heap.size + 2 by omega))).set (.bool true)
    have rb := ownsRow_of_heap hh.rb (W' := W3) (fun k hk => by have := (hh.rb.lt k hk).1; exact hother k (by omega) (by omega) (by omega))
    have rd : ∀ p ∈ ys, W3.ownsRow (w.heap.size + 6) 3 1 p.vd p.r.dep.length (p.r.dep.map (Value.int .i64)) := fun p hp => ownsRow_of_heap (Hdp.out p hp).1 fun k hk => by have := ((Hdp.out p hp).1.lt k hk).1; exact hother k (by omega) (by omega) (by omega)
    have ra := ownsRow_of_heap hh.ra (W' := W3) (fun k hk => by have := (hh.ra.lt k hk).1; exact hother k (by omega) (by omega) (by omega))
    have hB3 : Below w.heap.size w W3 := by
      rw [← hW3]
      exact (((HB.out.setCell (p := ⟨w.heap.size + 1, 0, none⟩) (by simp) _).setCell (p := ⟨w.heap.size + 2, 0, none⟩) (by simp) _).setCell (p := ⟨w.heap.size + 3, 0, none⟩) (by simp) _).drew
    rw [hW3]
    clear hother hW3 c1 c2 c4 c5 c6 f4 f5 f6 hK heq
    gi_wp2
    have hg := grownBy_putObj' W3 D (.deferred none)
    have hr : ∀ r, some D = some r → ∃ o : Obj, W3.heap[r]? = some o ∧ o.isCells = false := fun r e => by cases e; exact ⟨_, hK3, rfl⟩
    have Q1 := (boxed_own' hg hr R1).cell
    have Q2 := (boxed_own' hg hr R2).cell
    have Q3 := (boxed_own' hg hr R3).cell
    have ra' := ownsRow_own' hg hr ra
    have rb' := ownsRow_own' hg hr rb
    have rd' := fun p hp => ownsRow_own' hg hr (rd p hp)
    refine ⟨by simp, .inl ⟨_, _, rfl, run_takeDeferred hK3, ?_⟩⟩
    refine ⟨.tuple #[va, vb, .bool true], ?_, va, vb, rfl, ?_, ?_, ?_⟩
    · subst hva
      subst hvb
      simp [results, Tryz.f30, go_sem, Q1, Q2, Q3]
    · rw [← Hmap.out]
      exact IsNums.of_row (by rw [List.map_map]; exact ra')
    · rw [← Hmap2.out]
      exact recs_of_row rb' rd'
    · exact hB3.trans (belowK_b (w := w) (Nat.le_refl _) W3 D _ _ (by omega) hK3 rfl rfl)
  case stop =>
    rintro D c pre W _ _ h _
    exact h.elim

end Go.Proofs.YtjbjjfndkpcciaaGreatDoor

/- seg's Lasts. Own work; no statement. -/
set_option linter.unusedSimpArgs false
set_option linter.unusedVariables false
namespace Go.Proofs.YtjbjjfndkpcciaaGreatDoor
open Go.RowKit Go.Shelf Go.Sort

/-- Is a record at pos whose line does not wait? -/
def lastsS (S : SegD) (pos : Int) : Bool := match S.slots[belowN (poss S) pos]? with
  | none => false
  | some x => decide (x.pos = pos) && decide (x.line < S.D.lasts)

set_option maxHeartbeats 4000000 in
set_option maxRecDepth 100000 in
theorem lasts_not (m : SegM) (pos : Int) (i : Nat) (w : World) (u1 : Hid (Calls Tryz.prog 132 #[.pointer (some ⟨m.p, 0, none⟩), .int .i64 pos] w fun e w' => e = .returned (.tuple #[.int .i64 (i : Int), .bool false]) ∧ ∃ n, w' = w.drewN n)) :
    Calls Tryz.prog 123 #[.pointer (some ⟨m.p, 0, none⟩), .int .i64 pos] w fun e w' => e = .returned (.bool false) ∧ ∃ n, w' = w.drewN n := by
  go_enter Tryz.func123, Tryz.ntmps123
  go_wp2_with fail
  refine u1.out.mono ?_
  rintro e w' ⟨rfl, n1, rfl⟩
  obtain ⟨W1, hW1⟩ : ∃ W1, w.drewN n1 = W1 := ⟨_, rfl⟩
  rw [hW1]
  have HW1 := hide hW1
  clear hW1 u1
  go_wp2_with fail
  refine wp_region_quiet_lit (by kernel_rfl) (by kernel_rfl) ?_
  first | go_big_quiet_step (fail) | quiet_step (fail)
  first | go_big_quiet_step (fail) | quiet_step (fail)
  first | go_big_quiet_step (fail) | quiet_step (fail)
  first | go_big_quiet_step (fail) | quiet_step (fail)
  first | go_big_quiet_step (fail) | quiet_step (fail)
  first | go_big_quiet_step (fail) | quiet_step (fail)
  first | go_big_quiet_step (fail) | quiet_step (fail)
  first | go_big_quiet_step (fail) | quiet_step (fail)
  first | go_big_quiet_step (fail) | quiet_step (fail)
  first | go_big_quiet_step (fail) | quiet_step (fail)
  first | go_big_quiet_step (fail) | quiet_step (fail)
  first | go_big_quiet_step (fail) | quiet_step (fail)
  first | go_big_quiet_step (fail) | quiet_step (fail)
  first | go_big_quiet_step (fail) | quiet_step (fail)
  first | go_big_quiet_step (fail) | quiet_step (fail)
  first | go_big_quiet_step (fail) | quiet_step (fail)
  first | go_big_quiet_step (fail) | quiet_step (fail)
  first | go_big_quiet_step (fail) | quiet_step (fail)
  first | go_big_quiet_step (fail) | quiet_step (fail)
  first | go_big_quiet_step (fail) | quiet_step (fail)
  first | go_big_quiet_step (fail) | quiet_step (fail)
  first | go_big_quiet_step (fail) | quiet_step (fail)
  first | go_big_quiet_step (fail) | quiet_step (fail)
  first | go_big_quiet_step (fail) | quiet_step (fail)
  first | go_big_quiet_step (fail) | quiet_step (fail)
  first | go_big_quiet_step (fail) | quiet_step (fail)
  refine wpQuiet_nil ?_
  intro _ hw'
  obtain ⟨nq, hw''⟩ := hw'
  subst hw''
  go_wp2_with fail
  go_ret
  exact ⟨by first | rfl | (simp; done) | (simp; omega), _, by rw [← HW1.out]; exact World.drewN_drewN _ _ _⟩

set_option maxHeartbeats 4000000 in
set_option maxRecDepth 100000 in
theorem lasts_calls (B : Nat) (m : SegM) (S : SegD) (pos : Int) (w : World) (hd : IsSeg w B m S) :
    Calls Tryz.prog 123 #[.pointer (some ⟨m.p, 0, none⟩), .int .i64 pos] w fun e w' => e = .returned (.bool (lastsS S pos)) ∧ ∃ n, w' = w.drewN n := by
  have hlen := hd.disk.len
  have hfew := hd.ok.few
  have hlast := hd.disk.ok.lasts
  have u1 := hide (find_calls B m S pos w hd)
  have u2 := hide (fun k n => diskLen_calls B m.dp m.dg S.D ((w.drewN k).drewN n) ((hd.disk.drews k).drews n))
  have u3 := hide (fun k n => diskWaits_calls B m.dp m.dg S.D ((w.drewN k).drewN n) ((hd.disk.drews k).drews n))
  obtain ⟨o, ho⟩ : ∃ o, lastsS S pos = o := ⟨_, rfl⟩
  rw [ho]
  have hat := isAt_slot S pos
  unfold lastsS at ho
  by_cases hi : belowN (poss S) pos < S.slots.length
  · rw [List.getElem?_eq_getElem hi] at ho hat
    dsimp only at ho hat
    obtain ⟨a, cap, q, c3, cq, hs⟩ := hd.slot hi
    obtain ⟨vd, -, hq, -⟩ := hs
    obtain ⟨-, -, -, b4, -⟩ := hd.ok.each _ (List.getElem_mem hi)
    have cp := (cells7 hq).2.1
    obtain ⟨_, _, -, -, hpw, -, -⟩ := hd.val
    have c0 := (cells4 hpw).1
    generalize S.slots[belowN (poss S) pos] = x at *
    generalize belowN (poss S) pos = i at *
    rw [hat] at u1
    clear hq hpw hd hat
    unfold ptrV at c0
    obtain ⟨ln, hln⟩ : ∃ n, x.line = n := ⟨_, rfl⟩
    obtain ⟨L, hL⟩ : ∃ n, S.D.lines.length = n := ⟨_, rfl⟩
    obtain ⟨K, hK⟩ : ∃ n, S.D.lasts = n := ⟨_, rfl⟩
    obtain ⟨N, hN⟩ : ∃ n, S.slots.length = n := ⟨_, rfl⟩
    rw [hln] at ho b4 cp
    rw [hL] at u2 u3 hlen hlast hfew
    rw [hK] at ho u3 hlast
    rw [hN] at hfew c3 hi
    clear hln hL hK hN
    have hiN : (i : Int) < (N : Int) := by omega
    by_cases hx : x.pos = pos
    · rw [decide_eq_true hx] at u1 ho
      clear hx
      by_cases hll : ln < K
      · rw [decide_eq_true hll] at ho
        have hll' : (ln : Int) < (L : Int) - ((L : Int) - (K : Int)) := by omega
        subst ho
        go_enter Tryz.func123, Tryz.ntmps123
        go_wp2_with fail
        refine u1.out.mono ?_
        rintro e w' ⟨rfl, n1, rfl⟩
        obtain ⟨W1, hW1⟩ : ∃ W1, w.drewN n1 = W1 := ⟨_, rfl⟩
        have d0 : W1.cell? ⟨m.p, 0, none⟩ = some (.pointer (some ⟨m.dp, 0, none⟩)) := by rw [← hW1]; exact c0
        have d3 : W1.cell? ⟨m.p, 3, none⟩ = some (.slice (some ⟨a, 0, none⟩) N cap) := by rw [← hW1]; exact c3
        have dq : W1.cell? ⟨a, i, none⟩ = some (.pointer (some ⟨q, 0, none⟩)) := by rw [← hW1]; exact cq
        have dp : W1.cell? ⟨q, 1, none⟩ = some (.int .i64 (ln : Int)) := by rw [← hW1]; exact cp
        have v2 := u2.out n1
        have v3 := u3.out n1
        rw [hW1] at v2 v3
        rw [hW1]
        have HW1 := hide hW1
        have V2 := hide v2
        have V3 := hide v3
        clear hW1 v2 v3 c0 c3 cq cp u1 u2 u3
        go_wp2_with fail
        refine wp_region_quiet_lit (by kernel_rfl) (by kernel_rfl) ?_
        first | go_big_quiet_step (fail) | quiet_step (fail)
        first | go_big_quiet_step (fail) | quiet_step (fail)
        first | go_big_quiet_step (fail) | quiet_step (fail)
        first | go_big_quiet_step (fail) | quiet_step (fail)
        first | go_big_quiet_step (fail) | quiet_step (fail)
        first | go_big_quiet_step (fail) | quiet_step (fail)
        first | go_big_quiet_step (fail) | quiet_step (fail)
        first | go_big_quiet_step (fail) | quiet_step (fail)
        first | go_big_quiet_step (fail) | quiet_step (fail)
        first | go_big_quiet_step (fail) | quiet_step (fail)
        first | go_big_quiet_step (fail) | quiet_step (fail)
        first | go_big_quiet_step (fail) | quiet_step (fail)
        first | go_big_quiet_step (fail) | quiet_step (fail)
        first | go_big_quiet_step (fail) | quiet_step (fail)
        first | go_big_quiet_step (fail) | quiet_step (fail)
        first | go_big_quiet_step (fail) | quiet_step (fail)
        first | go_big_quiet_step (exact Calls.quiet_of_same (V2.out _)) | quiet_step (exact Calls.quiet_of_same (V2.out _))
        first | go_big_quiet_step (fail) | quiet_step (fail)
        first | go_big_quiet_step (fail) | quiet_step (fail)
        first | go_big_quiet_step (fail) | quiet_step (fail)
        first | go_big_quiet_step (fail) | quiet_step (fail)
        first | go_big_quiet_step (exact Calls.quiet_of (V3.out _)) | quiet_step (exact Calls.quiet_of (V3.out _))
        first | go_big_quiet_step (fail) | quiet_step (fail)
        first | go_big_quiet_step (fail) | quiet_step (fail)
        first | go_big_quiet_step (fail) | quiet_step (fail)
        first | go_big_quiet_step (fail) | quiet_step (fail)
        refine wpQuiet_nil ?_
        intro _ hw'
        obtain ⟨nq, hw''⟩ := hw'
        subst hw''
        go_wp2_with fail
        go_ret
        exact ⟨by first | rfl | (simp; done) | (simp; omega), _, by rw [← HW1.out]; exact World.drewN_drewN _ _ _⟩
      · rw [decide_eq_false hll] at ho
        have hll' : ¬ (ln : Int) < (L : Int) - ((L : Int) - (K : Int)) := by omega
        subst ho
        go_enter Tryz.func123, Tryz.ntmps123
        go_wp2_with fail
        refine u1.out.mono ?_
        rintro e w' ⟨rfl, n1, rfl⟩
        obtain ⟨W1, hW1⟩ : ∃ W1, w.drewN n1 = W1 := ⟨_, rfl⟩
        have d0 : W1.cell? ⟨m.p, 0, none⟩ = some (.pointer (some ⟨m.dp, 0, none⟩)) := by rw [← hW1]; exact c0
        have d3 : W1.cell? ⟨m.p, 3, none⟩ = some (.slice (some ⟨a, 0, none⟩) N cap) := by rw [← hW1]; exact c3
        have dq : W1.cell? ⟨a, i, none⟩ = some (.pointer (some ⟨q, 0, none⟩)) := by rw [← hW1]; exact cq
        have dp : W1.cell? ⟨q, 1, none⟩ = some (.int .i64 (ln : Int)) := by rw [← hW1]; exact cp
        have v2 := u2.out n1
        have v3 := u3.out n1
        rw [hW1] at v2 v3
        rw [hW1]
        have HW1 := hide hW1
        have V2 := hide v2
        have V3 := hide v3
        clear hW1 v2 v3 c0 c3 cq cp u1 u2 u3
        go_wp2_with fail
        refine wp_region_quiet_lit (by kernel_rfl) (by kernel_rfl) ?_
        first | go_big_quiet_step (fail) | quiet_step (fail)
        first | go_big_quiet_step (fail) | quiet_step (fail)
        first | go_big_quiet_step (fail) | quiet_step (fail)
        first | go_big_quiet_step (fail) | quiet_step (fail)
        first | go_big_quiet_step (fail) | quiet_step (fail)
        first | go_big_quiet_step (fail) | quiet_step (fail)
        first | go_big_quiet_step (fail) | quiet_step (fail)
        first | go_big_quiet_step (fail) | quiet_step (fail)
        first | go_big_quiet_step (fail) | quiet_step (fail)
        first | go_big_quiet_step (fail) | quiet_step (fail)
        first | go_big_quiet_step (fail) | quiet_step (fail)
        first | go_big_quiet_step (fail) | quiet_step (fail)
        first | go_big_quiet_step (fail) | quiet_step (fail)
        first | go_big_quiet_step (fail) | quiet_step (fail)
        first | go_big_quiet_step (fail) | quiet_step (fail)
        first | go_big_quiet_step (fail) | quiet_step (fail)
        first | go_big_quiet_step (exact Calls.quiet_of_same (V2.out _)) | quiet_step (exact Calls.quiet_of_same (V2.out _))
        first | go_big_quiet_step (fail) | quiet_step (fail)
        first | go_big_quiet_step (fail) | quiet_step (fail)
        first | go_big_quiet_step (fail) | quiet_step (fail)
        first | go_big_quiet_step (fail) | quiet_step (fail)
        first | go_big_quiet_step (exact Calls.quiet_of (V3.out _)) | quiet_step (exact Calls.quiet_of (V3.out _))
        first | go_big_quiet_step (fail) | quiet_step (fail)
        first | go_big_quiet_step (fail) | quiet_step (fail)
        first | go_big_quiet_step (fail) | quiet_step (fail)
        first | go_big_quiet_step (fail) | quiet_step (fail)
        refine wpQuiet_nil ?_
        intro _ hw'
        obtain ⟨nq, hw''⟩ := hw'
        subst hw''
        go_wp2_with fail
        go_ret
        exact ⟨by first | rfl | (simp; done) | (simp; omega), _, by rw [← HW1.out]; exact World.drewN_drewN _ _ _⟩
    · rw [decide_eq_false hx] at u1 ho
      rw [Bool.false_and] at ho
      subst ho
      exact lasts_not m pos i w u1
  · rw [List.getElem?_eq_none (by omega)] at ho hat
    dsimp only at ho hat
    rw [hat] at u1
    subst ho
    exact lasts_not m pos _ w u1

end Go.Proofs.YtjbjjfndkpcciaaGreatDoor

/- The laws' R and fresh; a segment's calls with named ends. Own work; no statement. -/
set_option linter.unusedSimpArgs false
set_option linter.unusedVariables false
namespace Go.Proofs.YtjbjjfndkpcciaaGreatDoor
open Go.RowKit Go.Shelf Go.Sort

/-- The record that the laws put. -/
def lawR (site seq : Int) : RecD := ⟨site, seq, [], ⟨#[107]⟩, ⟨#[]⟩⟩

theorem lawR_is (site seq : Int) (w : World) : IsRec w (.agg #[.int .i64 site, .int .i64 seq, .slice none 0 0, .string ⟨#[107]⟩, .string ⟨#[]⟩]) (lawR site seq) :=
  (show OwnRec 0 w _ (lawR site seq) from ⟨_, rfl, World.ownsRow_nil _ _ _ _⟩).isRec

/-- What a call leaves of a segment, from the world w0 on. -/
def On (w0 : World) (m : SegM) (S : SegD) (w w' : World) : Prop := ∃ dg sg, IsSeg w' w0.heap.size ⟨m.p, m.dp, dg, sg, m.c⟩ S ∧ Below w0.heap.size w0 w' ∧ Touch m.on w w'

theorem Goes.on {w0 w w' : World} {m : SegM} {S S' : SegD} (h : Goes w0.heap.size m S' w w') (hI : IsSeg w w0.heap.size m S) (hb : Below w0.heap.size w0 w) : On w0 m S' w w' := by
  obtain ⟨m', h1, h2, h3, h4, h5, -⟩ := h
  refine ⟨m'.dg, m'.sg, ?_, hb.trans (hI.below hb.size h5), h5⟩
  rw [← h1, ← h2, ← h3]
  exact h4

theorem segPut_on (w0 w : World) (m : SegM) (S S' : SegD) (k pos E : Int) (v : Value) (r : RecD) (hI : IsSeg w w0.heap.size m S) (hb : Below w0.heap.size w0 w) (hv : IsRec w v r) (hl : r.dep.length ≤ 1099511627776) (hks : r.key.size ≤ 1099511627776) (hvs : r.val.size ≤ 1099511627776) (hp : Pow w0)
    (hE : segPutE S k pos r = E) (hS : segPutS S k pos r = S') :
    Calls Tryz.prog 66 #[.pointer (some ⟨m.p, 0, none⟩), .int .i64 k, .int .i64 pos, v] w fun x w' => x = .returned (.int .i64 E) ∧ On w0 m S' w w' := by
  subst hE
  subst hS
  exact (segPut_calls _ m S k pos v r w hI hb.size hv hl hks hvs (hp.below hb)).mono fun x w' ⟨h1, h2⟩ => ⟨h1, h2.on hI hb⟩
theorem segCut_on (w0 w : World) (m : SegM) (S S' : SegD) (pos E : Int) (hI : IsSeg w w0.heap.size m S) (hb : Below w0.heap.size w0 w) (hp : Pow w0) (hE : segCutE S pos = E) (hS : segCutS S pos = S') :
    Calls Tryz.prog 181 #[.pointer (some ⟨m.p, 0, none⟩), .int .i64 pos] w fun x w' => x = .returned (.int .i64 E) ∧ On w0 m S' w w' := by
  subst hE
  subst hS
  exact (segCut_calls _ m S pos w hI hb.size (hp.below hb)).mono fun x w' ⟨h1, h2⟩ => ⟨h1, h2.on hI hb⟩
theorem segTrim_on (w0 w : World) (m : SegM) (S S' : SegD) (pos : Int) (hI : IsSeg w w0.heap.size m S) (hb : Below w0.heap.size w0 w) (hp : Pow w0) (hS : segTrimS S pos = S') :
    Calls Tryz.prog 146 #[.pointer (some ⟨m.p, 0, none⟩), .int .i64 pos] w fun x w' => x = .returned (.tuple #[]) ∧ On w0 m S' w w' := by
  subst hS
  exact (segTrim_calls _ m S pos w hI hb.size (hp.below hb)).mono fun x w' ⟨h1, h2⟩ => ⟨h1, h2.on hI hb⟩
theorem segSeal_on (w0 w : World) (m : SegM) (S S' : SegD) (k n E : Int) (hI : IsSeg w w0.heap.size m S) (hb : Below w0.heap.size w0 w) (hp : Pow w0) (hE : segSealE S k = E) (hn : (if segSealE S k = 0 then endS (segSealS S k) else 0) = n) (hS : segSealS S k = S') :
    Calls Tryz.prog 136 #[.pointer (some ⟨m.p, 0, none⟩), .int .i64 k] w fun x w' => x = .returned (.tuple #[.int .i64 n, .int .i64 E]) ∧ On w0 m S' w w' := by
  subst hn
  subst hE
  subst hS
  exact (segSeal_calls _ m S k w hI hb.size (hp.below hb)).mono fun x w' ⟨h1, h2⟩ => ⟨h1, h2.on hI hb⟩
theorem segSync_on (w0 w : World) (m : SegM) (S : SegD) (hI : IsSeg w w0.heap.size m S) (hb : Below w0.heap.size w0 w) :
    Calls Tryz.prog 68 #[.pointer (some ⟨m.dp, 0, none⟩)] w fun x w' => x = .returned (.tuple #[]) ∧ On w0 m { S with D := ⟨S.D.room, S.D.lines, S.D.lines.length⟩ } w w' :=
  (diskSync_calls _ _ _ _ w hI.disk).mono fun x w' ⟨h1, h2, h3⟩ => by
    obtain ⟨I3, T3, -⟩ := hI.disk_goes h2 h3 hI.ok.few (fun k hk => .inl hk)
    exact ⟨h1, _, _, I3, hb.trans (hI.below hb.size T3), T3⟩
theorem segCrash_on (w0 w : World) (m : SegM) (S : SegD) (keep : Int) (hI : IsSeg w w0.heap.size m S) (hb : Below w0.heap.size w0 w) (hk0 : -9223372036854775808 ≤ keep) (hk1 : keep ≤ 9223372036854775807) :
    Calls Tryz.prog 46 #[.pointer (some ⟨m.dp, 0, none⟩), .int .i64 keep] w fun x w' => x = .returned (.tuple #[]) ∧ IsDisk w' w0.heap.size m.dp m.dg (crashD S.D keep) ∧ Below w0.heap.size w0 w' ∧ Touch (onDisk m.dp m.dg) w w' :=
  (diskCrash_calls _ _ _ _ keep w hI.disk hk0 hk1).mono fun x w' ⟨h1, h2, h3⟩ => ⟨h1, h2, hb.trans (hI.disk.below hb.size h3), h3⟩
theorem segOpen_on (w0 w : World) (p : Nat) (g : Option Nat) (D : DiskD) (S : SegD) (hd : IsDisk w w0.heap.size p g D) (hb : Below w0.heap.size w0 w) (hS : openS D = S) :
    Calls Tryz.prog 89 #[.pointer (some ⟨p, 0, none⟩)] w fun x w' => ∃ q dg sg c, x = .returned (.tuple #[.pointer (some ⟨q, 0, none⟩), .int .i64 0]) ∧ IsSeg w' w0.heap.size ⟨q, p, dg, sg, c⟩ S ∧ Below w0.heap.size w0 w' ∧ Touch (onDisk p g) w w' := by
  subst hS
  refine (segOpen_calls _ p g D w hd hb.size).mono ?_
  rintro x w' ⟨m, rfl, rfl, h1, h2, -⟩
  exact ⟨m.p, m.dg, m.sg, m.c, rfl, h1, hb.trans (hd.below hb.size h2), h2⟩

/-- A block of another type is none of a segment's, or a disk's. -/
theorem IsSeg.not_on {w : World} {B : Nat} {m : SegM} {S : SegD} (h : IsSeg w B m S) {k : Nat} {c : Array Value} {t : TypeId} {f : Nat × Nat} (hk : w.heap[k]? = some (.cells c t f)) (h1 : t ≠ 144) (h2 : t ≠ 177) (h3 : t ≠ 129) (h4 : t ≠ 9) : ¬ m.on k := by
  obtain ⟨v, qs, hv, hl, hp, hr, -⟩ := h.val
  rintro (e | e | e)
  · rw [e, hp] at hk
    simp only [Option.some.injEq, Obj.cells.injEq] at hk
    exact h1 hk.2.1.symm
  · exact row_not hr hk h2 (by rw [hv, e])
  · exact h.disk.off hk h3 h4 k e rfl
theorem IsDisk.not_on {w : World} {B p : Nat} {g : Option Nat} {D : DiskD} (h : IsDisk w B p g D) {k : Nat} {c : Array Value} {t : TypeId} {f : Nat × Nat} (hk : w.heap[k]? = some (.cells c t f)) (h3 : t ≠ 129) (h4 : t ≠ 9) : ¬ onDisk p g k := fun e => h.off hk h3 h4 k e rfl

/-- Get, what it answers named; of the record its Seq alone. -/
theorem segGet_on (w0 w : World) (m : SegM) (S : SegD) (pos E Q : Int) (hI : IsSeg w w0.heap.size m S) (hb : Below w0.heap.size w0 w) (hE : (getS S pos).2 = E) (hQ : (getS S pos).1.seq = Q) :
    Calls Tryz.prog 73 #[.pointer (some ⟨m.p, 0, none⟩), .int .i64 pos] w fun x w' => ∃ s a l c k z, x = .returned (.tuple #[.agg #[.int .i64 s, .int .i64 Q, .slice a l c, .string k, .string z], .int .i64 E]) ∧ IsSeg w' w0.heap.size m S ∧ Below w0.heap.size w0 w' ∧ Below w.heap.size w w' := by
  subst hE
  subst hQ
  refine (segGet_calls _ m S pos w hI).mono ?_
  rintro x w' ⟨v, rfl, ⟨vd, rfl, hr⟩, hb'⟩
  obtain ⟨a, c, rfl⟩ := ownsRow_slice hr
  exact ⟨_, _, _, _, _, _, rfl, hI.keep hb', hb.trans (hb'.mono hb.size), hb'⟩

theorem segLasts_on (w0 w : World) (m : SegM) (S : SegD) (pos : Int) (b : Bool) (hI : IsSeg w w0.heap.size m S) (hb : Below w0.heap.size w0 w) (hE : lastsS S pos = b) :
    Calls Tryz.prog 123 #[.pointer (some ⟨m.p, 0, none⟩), .int .i64 pos] w fun x w' => x = .returned (.bool b) ∧ IsSeg w' w0.heap.size m S ∧ Below w0.heap.size w0 w' ∧ Below w.heap.size w w' := by
  subst hE
  refine (lasts_calls _ m S pos w hI).mono ?_
  rintro x w' ⟨rfl, n, rfl⟩
  exact ⟨rfl, hI.drews n, hb.trans ((drewsB w n).mono hb.size), drewsB w n⟩

/-- Rows of All of a segment. -/
theorem segRows_on (b c most : Nat) (v : Value) (qs : List Nat) (l : List SlotD) (w : World) (hA : IsSlots w b c v qs l) (hd : ∀ p ∈ l, p.r.dep.length ≤ 17592186044416) (hl : l.length ≤ most) (hm : most ≤ 1048576) :
    Calls Tryz.prog 30 #[.func (.func 208) #[] #[.pointer (some ⟨b, 0, none⟩)], .int .i64 (most : Int)] w fun e w' => ∃ va vb, e = .returned (.tuple #[va, vb, .bool true]) ∧ IsNums .i64 w' va (l.map (·.pos)) ∧ IsRecs w' vb (l.map (·.r)) ∧ Below w.heap.size w w' := by
  refine (rowsG_calls 208 _ w.heap.size (l.map fun p => (p.pos, p.r)) most w (Nat.le_refl _) (enters_of Tryz.func208 (by kernel_rfl) rfl) (fun w' hw' => by
    rw [List.length_map]
    exact segAll_stops 4 (by decide) b c v qs l (by omega) hd w w' hA hw') (by simpa using hl) hm).mono ?_
  rintro e w' ⟨va, vb, h1, h2, h3, h4⟩
  exact ⟨va, vb, h1, by simpa [List.map_map, Function.comp_def] using h2, by simpa [List.map_map, Function.comp_def] using h3, h4⟩

def freshS : SegD := ⟨⟨100000, [], 0⟩, 0, 0, []⟩

theorem segPut_err {S : SegD} {k pos : Int} {r : RecD} (h : segPutE S k pos r ≠ 0) : segPutS S k pos r = S := by
  unfold segPutE at h
  unfold segPutS
  repeat' split at h
  · rename_i h1; rw [if_pos h1]
  · rename_i h1 h2; rw [if_neg h1, if_pos h2]
  · rename_i h1 h2 h3; rw [if_neg h1, if_neg h2, if_pos h3]
  · rename_i h1 h2 h3 h4; rw [if_neg h1, if_neg h2, if_neg h3, if_pos h4]
  · rename_i h1 h2 h3 h4 h5
    rw [if_neg h1, if_neg h2, if_neg h3, if_neg h4, if_pos h5]
    unfold addS
    rw [if_neg h]
  · rename_i h1 h2 h3 h4 h5; rw [if_neg h1, if_neg h2, if_neg h3, if_neg h4, if_neg h5]

/-! The disk of a thousand bytes that known plays on. -/
def kS0 : SegD := ⟨⟨1000, [], 0⟩, 0, 0, []⟩
def kS1 : SegD := segPutS kS0 1 5 (lawR 0 1)
def kS2 : SegD := { kS1 with D := ⟨kS1.D.room, kS1.D.lines, kS1.D.lines.length⟩ }
def kS3 : SegD := segPutS kS2 1 7 (lawR 0 2)
def kS4 : SegD := openS (crashD kS3.D 3)
def kS5 : SegD := segSealS kS4 1
def kS6 : SegD := segTrimS kS5 6

theorem k1 : segPutE kS0 1 5 (lawR 0 1) = 0 := by decide +kernel
theorem k2 : segPutE kS2 1 7 (lawR 0 2) = 0 := by decide +kernel
theorem k3 : segPutE kS3 1 5 (lawR 1 1) = 5 := by decide +kernel
theorem k3' : segPutS kS3 1 5 (lawR 1 1) = kS3 := segPut_err (by rw [k3]; decide)
theorem k4 : (getS kS3 5).2 = 0 ∧ (getS kS3 5).1.seq = 1 := by decide +kernel
theorem k5 : (getS kS3 6).2 = 9 ∧ (getS kS3 6).1.seq = 0 := by decide +kernel
theorem k6 : lastsS kS3 5 = true ∧ lastsS kS3 7 = false ∧ lastsS kS3 6 = false := by decide +kernel
theorem k7 : (getS kS4 7).2 = 9 ∧ (getS kS4 7).1.seq = 0 := by decide +kernel
theorem k8 : segSealE kS4 1 = 0 ∧ endS kS5 = 6 := by decide +kernel
theorem k9 : segPutE kS5 1 9 (lawR 0 2) = 7 := by decide +kernel
theorem k9' : segPutS kS5 1 9 (lawR 0 2) = kS5 := segPut_err (by rw [k9]; decide)
theorem k10 : (getS kS6 5).2 = 8 ∧ (getS kS6 5).1.seq = 0 := by decide +kernel
theorem k11 : kS6.slots = [] := List.eq_nil_of_length_eq_zero (by decide +kernel)
theorem k12 : kS6.sealed = 1 := by decide +kernel

end Go.Proofs.YtjbjjfndkpcciaaGreatDoor

/- The laws' known over segments. Own work; no statement. -/
set_option linter.unusedSimpArgs false
set_option linter.unusedVariables false
namespace Go.Proofs.YtjbjjfndkpcciaaGreatDoor
open Go.RowKit Go.Shelf Go.Sort

/-- A disk's pointer is itself. -/
theorem diskPtr_same (a : Addr) (w : World) : (binOp .eql 78 (.pointer (some a)) (.pointer (some a))).run Tryz.prog w = .ok (.bool true) w := by
  obtain ⟨j, hj⟩ : ∃ j, Tryz.prog.info? 129 = some j := Option.isSome_iff_exists.1 (by kernel_rfl)
  exact run_eql_ptr_same w a (te := 129) (by kernel_rfl) hj

end Go.Proofs.YtjbjjfndkpcciaaGreatDoor

/- Lines that tell of a segment what it is: replayed they make it again. Pure laws. Own work; no statement. -/
set_option linter.unusedSimpArgs false
set_option linter.unusedVariables false
namespace Go.Proofs.YtjbjjfndkpcciaaGreatDoor

/-- Its disk's lines, one by one let hold, make the segment. -/
def Replay (S : SegD) : Prop := runE (emptyS S.D) S.D.lines 0 = (S, S.D.lines.length)

theorem applyS_with (S : SegD) (D : DiskD) (e : EntD) (k : Nat) : applyS { S with D := D } e k = { applyS S e k with D := D } := by
  unfold applyS
  repeat' split
  all_goals rfl

theorem runE_D (D : DiskD) : ∀ (l : List ByteArray) (S : SegD) (k : Nat), runE { S with D := D } l k = ({ (runE S l k).1 with D := D }, (runE S l k).2)
  | [], S, k => rfl
  | s :: l, S, k => by
    unfold runE
    cases parseE s.data.toList with
    | none => rfl
    | some e =>
      dsimp only
      rw [mayS_D]
      by_cases h : mayS S e = true
      · rw [if_pos h, if_pos h, applyS_with, runE_D D l]
      · rw [if_neg h, if_neg h]

theorem runE_snoc : ∀ (l : List ByteArray) (S S' : SegD) (k : Nat) (s : ByteArray) (e : EntD), runE S l k = (S', k + l.length) → parseE s.data.toList = some e → mayS S' e = true → runE S (l ++ [s]) k = (applyS S' e (k + l.length), k + l.length + 1)
  | [], S, S', k, s, e, h, hp, hm => by
    simp only [runE, List.length_nil, Nat.add_zero, Prod.mk.injEq, and_true] at h
    subst h
    simp only [List.nil_append, List.length_nil, Nat.add_zero]
    unfold runE
    rw [hp]
    dsimp only
    rw [if_pos hm]
    rfl
  | t :: l, S, S', k, s, e, h, hp, hm => by
    have hne : ∀ (n : Nat), k ≠ k + (n + 1) := fun n => by omega
    rw [List.cons_append]
    unfold runE at h ⊢
    cases ht : parseE t.data.toList with
    | none =>
      rw [ht] at h
      simp at h
    | some f =>
      rw [ht] at h
      dsimp only at h ⊢
      by_cases hf : mayS S f = true
      · rw [if_pos hf] at h ⊢
        have e1 : k + (t :: l).length = k + 1 + l.length := by simp; omega
        rw [e1] at h
        rw [e1]
        exact runE_snoc l _ S' (k + 1) s e h hp hm
      · rw [if_neg hf] at h
        simp at h

theorem replay_new (D : DiskD) (h : D.lines = []) : Replay (emptyS D) := by
  unfold Replay
  rw [show (emptyS D).D = D from rfl, h]
  rfl
theorem Replay.lasts {S : SegD} (h : Replay S) (D : DiskD) (hl : D.lines = S.D.lines) : Replay { S with D := D } := by
  unfold Replay at *
  dsimp only
  rw [hl]
  have := runE_D D S.D.lines (emptyS S.D) 0
  rw [h] at this
  exact this
theorem Replay.add {S : SegD} {e : EntD} (h : Replay S) (hm : mayS S e = true) (hp : parseE (textE e).data.toList = some e) (he : addE S e = 0) : Replay (addS S e) := by
  have hl := writeD_lines (D := S.D) (s := textE e) he
  have h1 : runE (emptyS S.D) (S.D.lines ++ [textE e]) 0 = (applyS S e S.D.lines.length, S.D.lines.length + 1) := by
    have := runE_snoc S.D.lines (emptyS S.D) S 0 (textE e) e (by rw [Nat.zero_add]; exact h) hp hm
    rwa [Nat.zero_add] at this
  have h2 := runE_D (writeD S.D (textE e)) (S.D.lines ++ [textE e]) (emptyS S.D) 0
  rw [h1] at h2
  unfold addS
  rw [if_pos he]
  unfold Replay
  rw [applyS_D]
  dsimp only
  rw [hl, applyS_with]
  simp only [List.length_append, List.length_singleton]
  exact h2
theorem Replay.last {S : SegD} {e : EntD} (h : Replay S) (hm : mayS S e = true) (hp : parseE (textE e).data.toList = some e) : Replay (lastS S e) := by
  unfold lastS
  by_cases he : addE S e = 0
  · rw [if_pos he]
    exact (h.add hm hp he).lasts _ rfl
  · rw [if_neg he]
    exact h
theorem Replay.open {S : SegD} (h : Replay S) : openS S.D = S := by
  unfold openS
  rw [h]
  dsimp only
  unfold openD
  rw [if_neg (by omega)]

/-! An entry in words. -/
theorem textE_list (e : EntD) : (textE e).data.toList = e.sign :: 32 :: (Lib.itoa e.n ++ (if e.sign = 112 then 32 :: (textR e.r).data.toList else [])) := by
  unfold textE
  split <;> simp [ByteArray.data_append]

theorem parse_textE {e : EntD} (h : EntW e) : parseE (textE e).data.toList = some { e with r := backR e.r } := by
  rw [textE_list, parseE_eq]
  have hs : e.sign ≠ 32 := by rcases h.sign with h | h | h | h <;> rw [h] <;> decide
  have hc : cutL (e.sign :: 32 :: (Lib.itoa e.n ++ (if e.sign = 112 then 32 :: (textR e.r).data.toList else []))) 32 = ([e.sign], Lib.itoa e.n ++ (if e.sign = 112 then 32 :: (textR e.r).data.toList else []), true) :=
    cut_at [e.sign] _ 32 (fun c hc => by rw [List.mem_singleton] at hc; rw [hc]; exact hs)
  rw [hc]
  dsimp only
  obtain ⟨sign, n, r⟩ := e
  dsimp only at *
  have hn := numL_itoa h.low h.high
  dsimp only at hn
  have hnum : ∀ c : UInt8, c ≠ 112 → sign = c → numE c (Lib.itoa n ++ (if sign = 112 then 32 :: (textR r).data.toList else [])) = some ⟨sign, n, backR r⟩ := by
    intro c hc e
    subst e
    have hz := h.zero hc
    dsimp only at hz
    rw [if_neg hc, List.append_nil, hz]
    unfold numE
    rw [hn]
    simp [backR, zeroR]
  rcases h.sign with hs' | hs' | hs' | hs'
  · have hs' : sign = 112 := hs'
    subst hs'
    rw [if_pos rfl, if_pos rfl]
    unfold putE
    rw [cut_at _ _ 32 (itoa_ne h.low (by decide))]
    dsimp only
    rw [hn, parse_textR (h.put rfl)]
    simp
  · have hs' : sign = 115 := hs'
    rw [if_neg (by rw [hs']; decide), if_pos (by rw [hs'])]
    exact hnum 115 (by decide) hs'
  · have hs' : sign = 99 := hs'
    rw [if_neg (by rw [hs']; decide), if_neg (by rw [hs']; decide), if_pos (by rw [hs'])]
    exact hnum 99 (by decide) hs'
  · have hs' : sign = 116 := hs'
    rw [if_neg (by rw [hs']; decide), if_neg (by rw [hs']; decide), if_neg (by rw [hs']; decide), if_pos (by rw [hs'])]
    exact hnum 116 (by decide) hs'

theorem nums_no10 {l : List Int} (h : InS l) : ∀ k, ∀ c ∈ numsTo l k, c ≠ 10
  | 0 => by simp [numsTo]
  | k + 1 => by
    intro c hc
    simp only [numsTo, List.mem_append] at hc
    rcases hc with hc | hc | hc
    · exact nums_no10 h k c hc
    · split at hc
      · simp at hc
      · simp at hc
        subst hc
        decide
    · rw [itoa_nat _ (getD_inS h k).1] at hc
      exact dig_ne (decDigits_all _ c hc) (by decide)

theorem textR_no10 {r : RecD} (h : GoodR r) : ∀ c ∈ (textR r).data.toList, c ≠ 10 := by
  obtain ⟨-, -, a3, -, a5, -, -, a8, -, a10, a11⟩ := check_parts h
  intro c hc
  rw [textR_list] at hc
  simp only [List.mem_append, List.mem_cons] at hc
  rcases hc with hc | rfl | hc | rfl | hc | rfl | hc | rfl | hc
  · exact itoa_ne a3 (by decide) c hc
  · decide
  · exact itoa_ne (by omega) (by decide) c hc
  · decide
  · unfold textL at hc
    simp only [List.mem_cons, List.mem_append, List.not_mem_nil, or_false] at hc
    rcases hc with rfl | hc | rfl
    · decide
    · exact nums_no10 a8 _ c hc
    · decide
  · decide
  · rintro rfl
    unfold isKeyL at a10
    simp only [Bool.and_eq_true, List.all_eq_true] at a10
    have := a10.2 10 hc
    revert this
    decide
  · decide
  · rintro rfl
    unfold checkValL at a11
    split at a11
    · rename_i hv
      rw [List.all_eq_true] at hv
      have := hv 10 hc
      revert this
      decide
    · cases a11
theorem textE_no10 {e : EntD} (h : EntW e) : ∀ c ∈ (textE e).data.toList, c ≠ 10 := by
  intro c hc
  rw [textE_list] at hc
  simp only [List.mem_append, List.mem_cons] at hc
  rcases hc with rfl | rfl | hc | hc
  · rcases h.sign with h | h | h | h <;> rw [h] <;> decide
  · decide
  · exact itoa_ne h.low (by decide) c hc
  · split at hc
    · rename_i hs
      rcases List.mem_cons.1 hc with rfl | hc
      · decide
      · exact textR_no10 (h.put hs) c hc
    · cases hc

end Go.Proofs.YtjbjjfndkpcciaaGreatDoor

/- What a segment has, by its slots alone: pure laws. Own work; no statement. -/
set_option linter.unusedSimpArgs false
set_option linter.unusedVariables false
namespace Go.Proofs.YtjbjjfndkpcciaaGreatDoor

theorem below_slot {S : SegD} (h : S.ok) {x : SlotD} (hx : x ∈ S.slots) : S.slots[belowN (poss S) x.pos]? = some x := by
  have hp : x.pos ∈ poss S := List.mem_map_of_mem hx
  have hat := (isAt_iff (poss S) x.pos (poss_pairwise h)).2 hp
  have hs := isAt_slot S x.pos
  rw [hat] at hs
  split at hs
  · cases hs
  · rename_i y e
    have hy : y.pos = x.pos := by simpa using hs.symm
    have hym : y ∈ S.slots := List.mem_of_getElem? e
    have : y = x := by
      obtain ⟨i, hi, rfl⟩ := List.mem_iff_getElem.1 hym
      obtain ⟨j, hj, rfl⟩ := List.mem_iff_getElem.1 hx
      rcases Nat.lt_trichotomy i j with h1 | h1 | h1
      · have := List.pairwise_iff_getElem.1 h.rising i j hi hj h1
        omega
      · subst h1
        rfl
      · have := List.pairwise_iff_getElem.1 h.rising j i hj hi h1
        omega
    rw [e, this]
theorem not_at {S : SegD} (h : S.ok) {pos : Int} (hx : ∀ x ∈ S.slots, x.pos ≠ pos) : isAt (poss S) pos = false := by
  rw [Bool.eq_false_iff]
  intro e
  have := (isAt_iff (poss S) pos (poss_pairwise h)).1 e
  unfold poss at this
  obtain ⟨x, h1, h2⟩ := List.mem_map.1 this
  exact hx x h1 h2

theorem getS_mem {S : SegD} (h : S.ok) {x : SlotD} (hx : x ∈ S.slots) : getS S x.pos = (x.r, 0) := by
  have := (h.each x hx).2.2.1
  unfold getS
  rw [if_neg (by omega), below_slot h hx]
  dsimp only
  rw [if_pos rfl]
theorem getS_none {S : SegD} (h : S.ok) {pos : Int} (ht : ¬ pos < S.trim) (hx : ∀ x ∈ S.slots, x.pos ≠ pos) : getS S pos = (zeroR, 9) := getS_not ht (not_at h hx)
theorem getS_trim {S : SegD} {pos : Int} (ht : pos < S.trim) : getS S pos = (zeroR, 8) := by unfold getS; rw [if_pos ht]

theorem lastsS_mem {S : SegD} (h : S.ok) {x : SlotD} (hx : x ∈ S.slots) : lastsS S x.pos = decide (x.line < S.D.lasts) := by
  unfold lastsS
  rw [below_slot h hx]
  dsimp only
  rw [decide_eq_true rfl, Bool.true_and]
theorem lastsS_none {S : SegD} (h : S.ok) {pos : Int} (hx : ∀ x ∈ S.slots, x.pos ≠ pos) : lastsS S pos = false := by
  have := isAt_slot S pos
  rw [not_at h hx] at this
  unfold lastsS
  split
  · rfl
  · rename_i x e
    rw [e] at this
    dsimp only at this
    rw [← this, Bool.false_and]

theorem ins_mem {α : Type} (l : List α) (i : Nat) (y x : α) : x ∈ insL l i y ↔ x ∈ l ∨ x = y := by
  unfold insL
  rw [List.mem_append, List.mem_cons]
  constructor
  · rintro (h | h | h)
    · exact .inl (List.mem_of_mem_take h)
    · exact .inr h
    · exact .inl (List.mem_of_mem_drop h)
  · rintro (h | h)
    · rw [← List.take_append_drop i l, List.mem_append] at h
      exact h.imp id .inr
    · exact .inr (.inl h)
theorem cut_mem {S : SegD} (h : S.ok) (n : Int) (x : SlotD) : x ∈ S.slots.take (belowN (poss S) n) ↔ x ∈ S.slots ∧ x.pos < n := by
  have hs := slots_split h n
  constructor
  · exact fun hx => ⟨List.mem_of_mem_take hx, hs.1 x hx⟩
  · rintro ⟨h1, h2⟩
    rw [← List.take_append_drop (belowN (poss S) n) S.slots, List.mem_append] at h1
    rcases h1 with h1 | h1
    · exact h1
    · have := hs.2 x h1
      omega
theorem trim_mem {S : SegD} (h : S.ok) (n : Int) (x : SlotD) : x ∈ S.slots.drop (belowN (poss S) n) ↔ x ∈ S.slots ∧ n ≤ x.pos := by
  have hs := slots_split h n
  constructor
  · exact fun hx => ⟨List.mem_of_mem_drop hx, hs.2 x hx⟩
  · rintro ⟨h1, h2⟩
    rw [← List.take_append_drop (belowN (poss S) n) S.slots, List.mem_append] at h1
    rcases h1 with h1 | h1
    · have := hs.1 x h1
      omega
    · exact h1

/-- There is room: an entry is written. -/
theorem addE_room {S : SegD} {e : EntD} (he : EntW e) (h : (bytesOf S.D.lines : Int) + 401 ≤ S.D.room) : addE S e = 0 := by
  unfold addE writeE
  have h1 : hasEnd (textE e) = false := by
    unfold hasEnd
    rw [decide_eq_false_iff_not]
    exact fun hm => textE_no10 he 10 hm rfl
  have h2 := textE_size he
  rw [if_neg (by rw [h1]; decide), if_neg (by omega)]
/-- What add makes, field by field. -/
theorem addS_ok {S : SegD} {e : EntD} (h : addE S e = 0) : addS S e = { applyS S e S.D.lines.length with D := ⟨S.D.room, S.D.lines ++ [textE e], S.D.lasts⟩ } := by
  unfold addS
  rw [if_pos h, applyS_with]
  unfold addE at h
  unfold writeD
  rw [if_pos h]
theorem lastS_ok {S : SegD} {e : EntD} (h : addE S e = 0) : lastS S e = { applyS S e S.D.lines.length with D := ⟨S.D.room, S.D.lines ++ [textE e], S.D.lines.length + 1⟩ } := by
  unfold lastS
  rw [if_pos h, addS_ok h]
  simp
theorem bytes_add {l : List ByteArray} {e : EntD} (he : EntW e) : bytesOf (l ++ [textE e]) ≤ bytesOf l + 401 := by
  have := textE_size he
  rw [bytesOf_append]
  simp [bytesOf]
  omega

theorem lawR_good {site seq : Int} (h0 : 0 ≤ site) (h1 : site < 8) (h2 : 1 ≤ seq) (h3 : seq ≤ 1048576) : GoodR (lawR site seq) := by
  unfold GoodR checkR lawR
  dsimp only
  rw [if_neg (by omega), if_pos (by decide +kernel), if_neg (by
    have : geti [] site = 0 := by unfold geti; split <;> simp
    omega), if_pos (by decide +kernel)]
  decide +kernel
theorem back_lawR (site seq : Int) : backR (lawR site seq) = lawR site seq := rfl

theorem put_w {pos : Int} {r : RecD} (h0 : 0 ≤ pos) (h1 : pos ≤ 2147483647) (hg : GoodR r) : EntW ⟨112, pos, r⟩ := ⟨.inl rfl, h0, h1, fun _ => hg, fun h => absurd rfl h⟩

/-- All lasts: nothing is lost. -/
theorem crash_all {D : DiskD} (h : D.lasts = D.lines.length) (keep : Int) : crashD D keep = D := by
  have hw : wholeN D keep = D.lines.length := by
    unfold wholeN
    rw [h, List.drop_eq_nil_of_le (Nat.le_refl _)]
    simp [keepN]
  unfold crashD
  rw [hw, List.take_of_length_le (Nat.le_refl _)]
  cases D
  dsimp only at *
  rw [h]

end Go.Proofs.YtjbjjfndkpcciaaGreatDoor

/- Maps in memory: what they read as; stripe's Check, Find. Own work; no statement. -/
set_option linter.unusedSimpArgs false
set_option linter.unusedVariables false
namespace Go.Proofs.YtjbjjfndkpcciaaGreatDoor
open Go.RowKit

/-- A map: its epochs' From and N. -/
abbrev MapD := List (Int × Int)
/-- At the block b from o on there lies a span. -/
def SpanAt (w : World) (b o : Nat) (x : Int × Int) : Prop := w.cell? ⟨b, o, none⟩ = some (.int .i64 x.1) ∧ w.cell? ⟨b, o + 1, none⟩ = some (.int .i64 x.2)
theorem SpanAt.below {w w' : World} {b o : Nat} {x : Int × Int} (h : SpanAt w b o x) (hb : Below w.heap.size w w') : SpanAt w' b o x := by
  have hlt : b < w.heap.size := World.block_lt_of_cell? w _ h.1
  exact ⟨(hb.cell (p := ⟨b, o, none⟩) hlt).trans h.1, (hb.cell (p := ⟨b, o + 1, none⟩) hlt).trans h.2⟩
/-- In the world w the slice v reads as the map m. -/
def IsMap (w : World) (v : Value) (m : MapD) : Prop := ∃ a cap, v = .slice a m.length cap ∧ (a = none → cap = 0) ∧ ∀ t (h : t < m.length), ∃ b o, a = some ⟨b, o, none⟩ ∧ SpanAt w b (o + t * 2) m[t]
theorem IsMap.below {w w' : World} {v : Value} {m : MapD} (h : IsMap w v m) (hb : Below w.heap.size w w') : IsMap w' v m := by
  obtain ⟨a, cap, rfl, h0, h⟩ := h
  exact ⟨a, cap, rfl, h0, fun t ht => let ⟨b, o, e, hr⟩ := h t ht; ⟨b, o, e, hr.below hb⟩⟩
theorem IsMap.nil (w : World) : IsMap w (.slice none 0 0) [] := ⟨none, 0, rfl, fun _ => rfl, fun t h => absurd h (Nat.not_lt_zero t)⟩

/-- Check, from the k-th span on, the one ahead's From being a. -/
def okFrom (a : Int) : MapD → Bool
  | [] => true
  | x :: r => decide (a ≤ x.1) && decide (1 ≤ x.2) && decide (x.2 ≤ 8) && okFrom x.1 r
/-- May it be a map? -/
def okMap (m : MapD) : Bool := match m with
  | [] => false
  | x :: _ => decide (x.1 = 0) && okFrom 0 m
/-- Check's number. -/
def checkM (m : MapD) : Int := if okMap m then 0 else 1

theorem okFrom_cons (a : Int) (x : Int × Int) (r : MapD) : okFrom a (x :: r) = (decide (a ≤ x.1) && decide (1 ≤ x.2) && decide (x.2 ≤ 8) && okFrom x.1 r) := rfl
theorem okFrom_step {m : MapD} {k : Nat} (h : k < m.length) (a : Int) : okFrom a (m.drop k) = (decide (a ≤ m[k].1) && decide (1 ≤ m[k].2) && decide (m[k].2 ≤ 8) && okFrom m[k].1 (m.drop (k + 1))) := by
  rw [List.drop_eq_getElem_cons h, okFrom_cons]

/-- A map's numbers are such as an int holds. -/
def MapR (m : MapD) : Prop := ∀ x ∈ m, (-9223372036854775808 ≤ x.1 ∧ x.1 ≤ 9223372036854775807) ∧ (-9223372036854775808 ≤ x.2 ∧ x.2 ≤ 9223372036854775807)

set_option maxHeartbeats 1000000 in
theorem mapCheck_calls (v : Value) (m : MapD) (w : World) (hv : IsMap w v m) (hl : m.length ≤ 1099511627776) :
    Calls Tryz.prog 86 #[v] w fun e w' => e = .returned (.int .i64 (checkM m)) ∧ Below w.heap.size w w' := by
  obtain ⟨a, cap, rfl, -, hcell⟩ := hv
  obtain ⟨r, hr⟩ : ∃ r, checkM m = r := ⟨_, rfl⟩
  rw [hr]
  by_cases h0 : m.length = 0
  · obtain rfl : m = [] := List.eq_nil_of_length_eq_zero h0
    subst hr
    clear hcell
    go_enter Tryz.func86, Tryz.ntmps86
    go_wp2
    go_ret
    exact ⟨rfl, Below.refl _ _⟩
  · obtain ⟨b, o, rfl, c00, c01⟩ := hcell 0 (by omega)
    have Hc := hide hcell
    clear hcell
    simp only [Nat.zero_mul, Nat.add_zero] at c00 c01
    have hok : okMap m = (decide ((m[0]'(by omega)).1 = 0) && okFrom 0 m) := by
      cases m with
      | nil => simp at h0
      | cons x r => rfl
    generalize (m[0]'(by omega)).1 = f0 at *
    have hbw : b < w.heap.size := World.block_lt_of_cell? w _ c00
    clear c01
    by_cases hf : f0 = 0
    · subst hf
      simp only [decide_true, Bool.true_and] at hok
      have hn : ((m.length : Int) == 0) = false := by rw [beq_eq_false_iff_ne]; omega
      go_enter Tryz.func86, Tryz.ntmps86
      go_wp2
      go_loopw [3, 18] (fun ah i wr => ∃ (k : Nat) (x : Int), ah = .int .i64 x ∧ i = .int .i64 (k : Int) ∧ k ≤ m.length ∧ okFrom x (m.drop k) = okMap m ∧ Below w.heap.size w wr) (fun _ i _ => m.length - (intOf i).toNat)
      case atStart => exact ⟨0, 0, rfl, rfl, Nat.zero_le _, hok.symm, Below.refl _ _⟩
      case round =>
        obtain ⟨k, x, rfl, rfl, hk, hok', hB⟩ := hrel
        by_cases hlt : k < m.length
        · have hltI : (k : Int) < (m.length : Int) := by omega
          obtain ⟨b', o', e, c0, c1⟩ := Hc.out k hlt
          cases e
          rw [okFrom_step hlt] at hok'
          replace c0 : wr.cell? ⟨b, o + k * 2, none⟩ = _ := (hB.cell (p := ⟨b, o + k * 2, none⟩) hbw).trans c0
          replace c1 : wr.cell? ⟨b, o + k * 2 + 1, none⟩ = _ := (hB.cell (p := ⟨b, o + k * 2 + 1, none⟩) hbw).trans c1
          generalize m[k].1 = p at *
          generalize m[k].2 = q at *
          have hbs := hB.size
          have hB' : Below w.heap.size w (wr.alloc (.cells #[.int .i64 p, .int .i64 q] 118)) := hB.alloc hB.size _
          have bad : ¬ (x ≤ p ∧ 1 ≤ q ∧ q ≤ 8) → r = 1 := fun hn => by
            rw [← hr, checkM, ← hok', if_neg]
            intro hx
            simp only [Bool.and_eq_true, decide_eq_true_eq] at hx
            exact hn ⟨hx.1.1.1, hx.1.1.2, hx.1.2⟩
          have Bad := hide bad
          have Hr := hide hr
          clear bad hr
          by_cases h1 : p < x
          · obtain rfl := Bad.out (by omega)
            go_wp2
            go_ret
            exact ⟨rfl, hB'⟩
          · by_cases h2 : q < 1
            · obtain rfl := Bad.out (by omega)
              go_wp2
              go_ret
              exact ⟨rfl, hB'⟩
            · by_cases h3 : q > 8
              · obtain rfl := Bad.out (by omega)
                go_wp2
                go_ret
                exact ⟨rfl, hB'⟩
              · have hok2 : okFrom p (m.drop (k + 1)) = okMap m := by
                  rw [← hok']
                  simp [show x ≤ p by omega, show 1 ≤ q by omega, show q ≤ 8 by omega]
                go_wp2
                exact ⟨⟨k + 1, p, rfl, by go_num, by omega, hok2, hB'⟩, by simp [intOf]; omega⟩
        · have hltI : ¬ (k : Int) < (m.length : Int) := by omega
          have hr0 : r = 0 := by
            rw [← hr, checkM, ← hok', List.drop_of_length_le (by omega)]
            rfl
          subst hr0
          go_wp2
          go_ret
          exact ⟨rfl, hB⟩
    · have : r = 1 := by rw [← hr, checkM, hok]; simp [hf]
      subst this
      have hn : ((m.length : Int) == 0) = false := by rw [beq_eq_false_iff_ne]; omega
      have hf2 : (f0 == 0) = false := by rw [beq_eq_false_iff_ne]; exact hf
      go_enter Tryz.func86, Tryz.ntmps86
      go_wp2
      go_ret
      exact ⟨rfl, Below.refl _ _⟩

end Go.Proofs.YtjbjjfndkpcciaaGreatDoor
