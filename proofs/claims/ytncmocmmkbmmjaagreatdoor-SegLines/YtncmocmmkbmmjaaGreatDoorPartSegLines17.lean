/- Own work: the parts RS3n, RS5, RS6, RS7 of the proof, laid together. -/
import Derived.Test.YtncmocmmkbmmjaaGreatDoorPartSegLines16
import Derived.Test.YtncmocmmkbmmjaaGreatDoorPartSegLines14
/- The reference's segments: put, all of it. Own work; no statement. -/
set_option linter.unusedSimpArgs false
set_option linter.unusedVariables false
namespace Go.Proofs.YtncmocmmkbmmjaaGreatDoor
open Go.RowKit Go.Shelf Go.Sort

set_option maxHeartbeats 4000000 in
set_option maxRecDepth 100000 in
theorem refPut_none (B p q : Nat) (S : SegD) (pos : Int) (r : RecD) (da : Option Addr) (dc : Nat) (n k : Nat) (bt : Bool) (w : World) (hB : B ≤ w.heap.size) (hvd : w.ownsRow B 3 1 (.slice da r.dep.length dc) r.dep.length (r.dep.map (Value.int .i64))) (hok : SegD.ok { S with slots := insL S.slots k ⟨pos, n, r⟩ }) (hf : S.slots.length < 1048576) (hk : k ≤ S.slots.length) (hd : IsRS w B p q S)
    (u1 : Hid (∀ W, Below w.heap.size w W → Calls Tryz.prog 71 #[.pointer (some ⟨p, 0, none⟩), .int .i64 pos] W fun e w' => e = .returned (.tuple #[.int .i64 (k : Int), .bool bt]) ∧ ∃ n, w' = W.drewN n))
    (l : List RSl) (hl : l.map (·.x) = S.slots) (hp : w.heap[p]? = some (.cells #[ptrV q, (.slice none 0 0), .int .i64 S.sealed, .int .i64 S.trim] 91 (0, 0))) (hr : IsRSl w B (.slice none 0 0) l) (hn0 : S.slots.length = 0) (hk0 : k = 0) :
    Calls Tryz.prog 72 #[.pointer (some ⟨p, 0, none⟩), .int .i64 pos, .agg #[.int .i64 r.site, .int .i64 r.seq, .slice da r.dep.length dc, .string r.key, .string r.val], .int .i64 (n : Int)] w fun e w' => e = .returned (.tuple #[]) ∧ IsRS w' B p q { S with slots := insL S.slots k ⟨pos, n, r⟩ } ∧ Touch (fun k => k = p) w w' := by
  obtain ⟨i0, hi0, hz0, hz1, hz2⟩ := info_parts Tryz.info97
  have HB := box_below w (.cells #[.int .i64 r.site, .int .i64 r.seq, .slice da r.dep.length dc, .string r.key, .string r.val] 95)
  obtain ⟨W1, hW1⟩ : ∃ W1, w.alloc (.cells #[.int .i64 r.site, .int .i64 r.seq, .slice da r.dep.length dc, .string r.key, .string r.val] 95) = W1 := ⟨_, rfl⟩
  have x0 : W1.heap[w.heap.size]? = some (.cells #[.int .i64 r.site, .int .i64 r.seq, .slice da r.dep.length dc, .string r.key, .string r.val] 95 (0, 0)) := by rw [← hW1]; exact World.alloc_heap_new w _
  rw [hW1] at HB
  have u2 := hide (u1.out W1 HB)
  have Hd := hide (hd.keep HB)
  have hok2 := hide hok
  have HW := hide hW1
  have X0 := hide x0
  have Hvd := hide (own_below hvd HB)
  clear hd hW1 x0 hvd hok u1
  go_enter Tryz.func72, Tryz.ntmps72
  go_wp2_with fail
  rw [HW.out]
  refine u2.out.mono ?_
  rintro e w' ⟨rfl, nq, rfl⟩
  obtain ⟨W, hW⟩ : ∃ W, W1.drewN nq = W := ⟨_, rfl⟩
  have hdW : IsRS W B p q S := by rw [← hW]; exact Hd.out.drews nq
  have hBW : B ≤ W.heap.size := by rw [← hW]; have := HB.size; exact Nat.le_trans hB this
  have TW := hide (show Below w.heap.size w W by rw [← hW]; exact HB.trans ((drewsB W1 nq).mono HB.size))
  have xW : W.heap[w.heap.size]? = some (.cells #[.int .i64 r.site, .int .i64 r.seq, .slice da r.dep.length dc, .string r.key, .string r.val] 95 (0, 0)) := by rw [← hW]; exact X0.out
  have HvW := hide (show W.ownsRow B 3 1 (.slice da r.dep.length dc) r.dep.length (r.dep.map (Value.int .i64)) by rw [← hW]; exact Hvd.out)
  have hpW : W.heap[p]? = some (.cells #[ptrV q, (.slice none 0 0), .int .i64 S.sealed, .int .i64 S.trim] 91 (0, 0)) := by rw [← hW]; exact keepB hp (HB.trans ((drewsB W1 nq).mono HB.size))
  have hrW : IsRSl W B (.slice none 0 0) l := by rw [← hW]; exact hr.below (HB.trans ((drewsB W1 nq).mono HB.size))
  rw [hW]
  clear hW u2 Hd X0 Hvd HB HW hp hr
  have hll : l.length = S.slots.length := by rw [← hl]; simp
  obtain ⟨c0, c1, c2, c3, f0, f1, f2, f3⟩ := cells4 hpW
  obtain ⟨k0, k1, k2, k3, k4, -, -, -, -, -⟩ := cells5 xW
  have hplt := ltAt hpW
  have hxlt := ltAt xW
  have Hr := hide hrW
  have HWd := hide hdW
  have Hl := hide hl
  clear hrW hpW hdW hl xW
  have hkI : (k : Int) ≤ (S.slots.length : Int) := by omega
  subst hk0
  have hln : l = [] := List.eq_nil_of_length_eq_zero (by omega)
  have hsrc : ∀ W', Below W.heap.size W W' → Src W' (.slice none 0 0) 0 ((l.take 0).flatMap RSl.cells) := fun _ _ => .inl ⟨rfl, rfl, rfl⟩
  have hsrc2 : ∀ W', Below W.heap.size W W' → Src W' (.slice none 0 0) (S.slots.length - 0) ((l.drop 0).flatMap RSl.cells) := fun _ _ => .inl ⟨rfl, by omega, by rw [hln]; rfl⟩
  clear hn0 hln
  have hslot : Hid (∀ u ∈ [Value.int .i64 pos, .int .i64 r.site, .int .i64 r.seq, .slice da r.dep.length dc, .string r.key, .string r.val, .int .i64 (n : Int)], u.oneCell' = true) := rsl_one (s := ⟨⟨pos, n, r⟩, .slice da r.dep.length dc⟩) rfl
  have hone : Hid (∀ u ∈ (l.take 0).flatMap RSl.cells, u.oneCell' = true) := rsls_one Hr.out (fun s hs => List.mem_of_mem_take hs)
  have hone2 : Hid (∀ u ∈ (l.drop 0).flatMap RSl.cells, u.oneCell' = true) := rsls_one Hr.out (fun s hs => List.mem_of_mem_drop hs)
  have hMc : ((l.take 0).flatMap RSl.cells).length = 0 * 7 := by rw [flat_len]; simp
  have hMc2 : ((l.drop 0).flatMap RSl.cells).length = (S.slots.length - 0) * 7 := by rw [flat_len, List.length_drop, hll]
  have hS : ∀ W', Below W.heap.size W W' → W'.cell? ⟨p, 1, none⟩ = some (.slice none 0 0) ∧ W'.cell? ⟨w.heap.size, 0, none⟩ = some (.int .i64 r.site) ∧ W'.cell? ⟨w.heap.size, 1, none⟩ = some (.int .i64 r.seq) ∧ W'.cell? ⟨w.heap.size, 2, none⟩ = some (.slice da r.dep.length dc) ∧ W'.cell? ⟨w.heap.size, 3, none⟩ = some (.string r.key) ∧ W'.cell? ⟨w.heap.size, 4, none⟩ = some (.string r.val) := fun W' h =>
    ⟨(h.cell (p := ⟨p, 1, none⟩) hplt).trans c1, (h.cell (p := ⟨w.heap.size, 0, none⟩) hxlt).trans k0, (h.cell (p := ⟨w.heap.size, 1, none⟩) hxlt).trans k1, (h.cell (p := ⟨w.heap.size, 2, none⟩) hxlt).trans k2, (h.cell (p := ⟨w.heap.size, 3, none⟩) hxlt).trans k3, (h.cell (p := ⟨w.heap.size, 4, none⟩) hxlt).trans k4⟩
  have hbd : Below W.heap.size W W.drew := ⟨rfl, rfl, rfl, Nat.le_refl _, fun _ _ => rfl⟩
  go_wp2_with fail
  refine region_headT 14 (fun W' => W'.cell? ⟨p, 1, none⟩ = some (.slice none 0 0) ∧ W'.cell? ⟨w.heap.size, 0, none⟩ = some (.int .i64 r.site) ∧ W'.cell? ⟨w.heap.size, 1, none⟩ = some (.int .i64 r.seq) ∧ W'.cell? ⟨w.heap.size, 2, none⟩ = some (.slice da r.dep.length dc) ∧ W'.cell? ⟨w.heap.size, 3, none⟩ = some (.string r.key) ∧ W'.cell? ⟨w.heap.size, 4, none⟩ = some (.string r.val)) (by kernel_rfl) (by decide) ?_
  refine HeadT.take 1 (.pointer (some ⟨p, 0, none⟩)) rfl (by kernel_rfl) (.inl ⟨rfl, fun w2 ⟨s0, s1, s2, s3, s4, s5⟩ => by go_simp⟩) (hS _ hbd) ?_
  refine HeadT.take 2 (.pointer (some ⟨p, 0, none⟩)) rfl (by kernel_rfl) (.inl ⟨rfl, fun w2 ⟨s0, s1, s2, s3, s4, s5⟩ => by go_simp⟩) (hS _ hbd) ?_
  refine HeadT.take 3 (.pointer (some ⟨p, 1, none⟩)) rfl (by kernel_rfl) (.inl ⟨rfl, fun w2 ⟨s0, s1, s2, s3, s4, s5⟩ => by go_simp⟩) (hS _ hbd) ?_
  refine HeadT.take 4 (.slice none 0 0) rfl (by kernel_rfl) (.inl ⟨rfl, fun w2 ⟨s0, s1, s2, s3, s4, s5⟩ => by go_simp⟩) (hS _ hbd) ?_
  refine HeadT.take 5 (.int .i64 (0 : Int)) rfl (by kernel_rfl) (.inl ⟨rfl, fun w2 ⟨s0, s1, s2, s3, s4, s5⟩ => by go_simp⟩) (hS _ hbd) ?_
  refine HeadT.take 6 (.slice none 0 0) rfl (by kernel_rfl) (.inl ⟨rfl, fun w2 ⟨s0, s1, s2, s3, s4, s5⟩ => by go_simp⟩) (hS _ hbd) ?_
  refine HeadT.take 8 (.int .i64 pos) rfl (by kernel_rfl) (.inl ⟨rfl, fun w2 ⟨s0, s1, s2, s3, s4, s5⟩ => by go_simp⟩) (hS _ hbd) ?_
  refine HeadT.take 9 (.agg #[.int .i64 r.site, .int .i64 r.seq, .slice da r.dep.length dc, .string r.key, .string r.val]) rfl (by kernel_rfl) (.inl ⟨rfl, fun w2 ⟨s0, s1, s2, s3, s4, s5⟩ => by go_simp⟩) (hS _ hbd) ?_
  refine HeadT.take 10 (.int .i64 (n : Int)) rfl (by kernel_rfl) (.inl ⟨rfl, fun w2 ⟨s0, s1, s2, s3, s4, s5⟩ => by go_simp⟩) (hS _ hbd) ?_
  refine HeadT.take 11 (.agg #[.int .i64 pos, .int .i64 r.site, .int .i64 r.seq, .slice da r.dep.length dc, .string r.key, .string r.val, .int .i64 (n : Int)]) rfl (by kernel_rfl) (.inl ⟨rfl, fun w2 ⟨s0, s1, s2, s3, s4, s5⟩ => by go_simp⟩) (hS _ hbd) ?_
  refine HeadT.two 0 12 (by kernel_rfl) ?_ ?_
  · skip
    obtain ⟨WA, hWA⟩ : ∃ WA, W.drew.alloc (.cells #[] 97) = WA := ⟨_, rfl⟩
    have hbWA : Below W.heap.size W WA := by rw [← hWA]; exact hbd.alloc hbd.size _
    have hrA : WA.ownsRow W.heap.size 97 7 (.slice (some ⟨W.heap.size, 0, none⟩) 0 0) 0 [] := by rw [← hWA]; exact World.ownsRow_lit W.drew #[] 0 hbd.size (by unfold maxLen; omega) rfl
    refine wpOp_val rfl rfl (v := .slice (some ⟨W.heap.size, 0, none⟩) 0 0) (w' := WA) (by rw [← hWA]; go_simp) ⟨hS _ hbWA, ?_⟩
    refine HeadT.two 7 12 (by kernel_rfl) ?_ ?_
    · skip
      refine wpOp_append rfl rfl _ _ 89 rfl W.heap.size 97 i0 _ 7 88 Tryz.underlying89 hi0 hz0 hz1 hz2 rfl (by decide) (.slice (some ⟨W.heap.size, 0, none⟩) 0 0) 0 [] (by go_simp) hrA (.slice none 0 0) 0 _ (by go_simp) (hsrc WA hbWA) hMc hone.out (by unfold maxLen; omega) (by omega) hbWA.size ?_
      intro v1 wB hownB hgrowB
      have hbB : Below W.heap.size W wB := hbWA.grown hgrowB hbWA.size (fun j hj => (hrA.lt j hj).1)
      refine ⟨hS _ hbB, ?_⟩
      refine HeadT.only 12 (by kernel_rfl) ?_
      obtain ⟨W3, hW3⟩ : ∃ W3, wB.alloc (.cells #[.int .i64 pos, .int .i64 r.site, .int .i64 r.seq, .slice da r.dep.length dc, .string r.key, .string r.val, .int .i64 (n : Int)] 97) = W3 := ⟨_, rfl⟩
      have hbW3 : Below W.heap.size W W3 := by rw [← hW3]; exact hbB.alloc hbB.size _
      refine wpOp_val rfl rfl (v := .slice (some ⟨wB.heap.size, 0, none⟩) 1 1) (w' := W3) (by rw [← hW3]; go_simp) ⟨hS _ hbW3, ?_⟩
      have hlit : W3.heap[wB.heap.size]? = some (.cells #[.int .i64 pos, .int .i64 r.site, .int .i64 r.seq, .slice da r.dep.length dc, .string r.key, .string r.val, .int .i64 (n : Int)] 97 (0, 0)) := by rw [← hW3]; exact World.alloc_heap_new wB _
      have hown : W3.ownsRow W.heap.size 97 7 v1 (0 + 0) ([] ++ (l.take 0).flatMap RSl.cells) := by rw [← hW3]; exact hownB.alloc _
      have hb3 := hbW3
      obtain ⟨bs, hbs⟩ : ∃ bs, wB.heap.size = bs := ⟨_, rfl⟩
      rw [hbs] at hlit ⊢
      clear hbs hW3 hbW3 hownB hgrowB hbB hWA hbWA hrA
      refine HeadT.only 13 (by kernel_rfl) ?_
      refine wpOp_append rfl rfl _ _ 89 rfl W.heap.size 97 i0 _ 7 88 Tryz.underlying89 hi0 hz0 hz1 hz2 rfl (by decide) v1 (0 + 0) _ (by go_simp) hown (.slice (some ⟨bs, 0, none⟩) 1 1) 1 [.int .i64 pos, .int .i64 r.site, .int .i64 r.seq, .slice da r.dep.length dc, .string r.key, .string r.val, .int .i64 (n : Int)] (by go_simp) (.inr ⟨⟨bs, 0, none⟩, 1, rfl, fun j u hu => by rw [Addr.add_lit, Nat.zero_add, cellsAt hlit j]; simpa using hu⟩) rfl hslot.out (by unfold maxLen; omega) (by omega) hb3.size ?_
      intro v2 w4 hown2 hgrow2
      have hb4 : Below W.heap.size W w4 := hb3.grown hgrow2 hb3.size (fun j hj => (hown.lt j hj).1)
      refine ⟨hS _ hb4, ?_⟩
      refine HeadT.tail rfl (by kernel_rfl) ?_
      obtain ⟨d1, -, -, -, -, -⟩ := hS _ hb4
      have hsrc4 := hsrc2 w4 hb4
      simp only [Nat.zero_add, List.nil_append] at hown2
      obtain ⟨a2, cc2, rfl⟩ := ownsRow_slice hown2
      clear hown hgrow2 hlit hb3 hS hsrc hsrc2
      simp only [List.drop_succ_cons, List.drop_zero]
      go_wp2_with fail
      simp only [noPanic]
      go_wp2_with (at_builtin; refine wpList_append_src rfl _ _ 89 rfl W.heap.size 97 i0 _ 7 88 Tryz.underlying89 hi0 hz0 hz1 hz2 rfl (by decide) _ _ _ rfl hown2 _ (S.slots.length - 0) _ rfl hsrc4 hMc2 hone2.out (by unfold maxLen; omega) (by omega) hb4.size ?_)
      intro v3 w5 hown3 hgrow3
      have hb5 : Below W.heap.size W w5 := hb4.grown hgrow3 hb4.size (fun j hj => (hown2.lt j hj).1)
      have hrs : IsRSl w5 B v3 (insL l 0 ⟨⟨pos, n, r⟩, .slice da r.dep.length dc⟩) := by
        refine ⟨ownsRow_low ?_ hBW, fun s hs => ?_⟩
        · have e1 : (insL l 0 ⟨⟨pos, n, r⟩, .slice da r.dep.length dc⟩).length = 0 + 1 + (S.slots.length - 0) := by rw [insL_length _ _ _ (by omega)]; omega
          have e2 : (insL l 0 ⟨⟨pos, n, r⟩, .slice da r.dep.length dc⟩).flatMap RSl.cells = ((l.take 0).flatMap RSl.cells ++ [.int .i64 pos, .int .i64 r.site, .int .i64 r.seq, .slice da r.dep.length dc, .string r.key, .string r.val, .int .i64 (n : Int)]) ++ (l.drop 0).flatMap RSl.cells := by
            unfold insL
            simp [RSl.cells, List.flatMap_append, List.flatMap_cons]
          rw [e1, e2]
          simpa using hown3
        · rcases (ins_mem _ _ _ _).1 hs with h | rfl
          · exact own_below (Hr.out.deps s h) hb5
          · exact own_below HvW.out hb5
      have e5 := (hb5.cell (p := ⟨p, 1, none⟩) hplt).trans c1
      have l5 : w5.frozen? ⟨p, 1, none⟩ = false := (hb5.frozen (p := ⟨p, 1, none⟩) hplt).trans f1
      obtain ⟨I, T⟩ := rs_put (sl := insL S.slots 0 ⟨pos, n, r⟩) HWd.out hb5 hrs (by unfold insL; simp [← Hl.out]) hok2.out (by rw [insL_length _ _ _ hk]; omega)
      obtain ⟨a3, cc3, rfl⟩ := ownsRow_slice hown3
      have F := hide (show _ ∧ _ from ⟨I, T.of_touch TW.out⟩)
      clear I T hown3 hgrow3 hrs hb5 hown2 hb4 hsrc4 d1
      go_wp2_with fail
      go_end0
      exact ⟨rfl, F.out⟩
    · skip
      obtain ⟨WB, hWB⟩ : ∃ W3, WA.alloc (.cells #[.int .i64 pos, .int .i64 r.site, .int .i64 r.seq, .slice da r.dep.length dc, .string r.key, .string r.val, .int .i64 (n : Int)] 97) = W3 := ⟨_, rfl⟩
      have hbWB : Below W.heap.size W WB := by rw [← hWB]; exact hbWA.alloc hbWA.size _
      refine wpOp_val rfl rfl (v := .slice (some ⟨WA.heap.size, 0, none⟩) 1 1) (w' := WB) (by rw [← hWB]; go_simp) ⟨hS _ hbWB, ?_⟩
      have hlit : WB.heap[WA.heap.size]? = some (.cells #[.int .i64 pos, .int .i64 r.site, .int .i64 r.seq, .slice da r.dep.length dc, .string r.key, .string r.val, .int .i64 (n : Int)] 97 (0, 0)) := by rw [← hWB]; exact World.alloc_heap_new WA _
      refine HeadT.only 7 (by kernel_rfl) ?_
      have hrB : WB.ownsRow W.heap.size 97 7 (.slice (some ⟨W.heap.size, 0, none⟩) 0 0) 0 [] := by rw [← hWB]; exact hrA.alloc _
      refine wpOp_append rfl rfl _ _ 89 rfl W.heap.size 97 i0 _ 7 88 Tryz.underlying89 hi0 hz0 hz1 hz2 rfl (by decide) (.slice (some ⟨W.heap.size, 0, none⟩) 0 0) 0 [] (by go_simp) hrB (.slice none 0 0) 0 _ (by go_simp) (hsrc WB hbWB) hMc hone.out (by unfold maxLen; omega) (by omega) hbWB.size ?_
      intro v1 W3 hown hgrowB
      have hb3 : Below W.heap.size W W3 := hbWB.grown hgrowB hbWB.size (fun j hj => (hrB.lt j hj).1)
      refine ⟨hS _ hb3, ?_⟩
      replace hlit : W3.heap[WA.heap.size]? = _ := (hgrowB.block WA.heap.size (ltAt hlit) (fun e => by have h9 : some W.heap.size = some WA.heap.size := e.symm; simp only [Option.some.injEq] at h9; have h8 : WA.heap.size = W.heap.size + 1 := (by rw [← hWA]; simp); omega)).trans hlit
      obtain ⟨bs, hbs⟩ : ∃ bs, WA.heap.size = bs := ⟨_, rfl⟩
      rw [hbs] at hlit ⊢
      clear hbs hWB hbWB hgrowB hWA hbWA hrA hrB
      refine HeadT.only 13 (by kernel_rfl) ?_
      refine wpOp_append rfl rfl _ _ 89 rfl W.heap.size 97 i0 _ 7 88 Tryz.underlying89 hi0 hz0 hz1 hz2 rfl (by decide) v1 (0 + 0) _ (by go_simp) hown (.slice (some ⟨bs, 0, none⟩) 1 1) 1 [.int .i64 pos, .int .i64 r.site, .int .i64 r.seq, .slice da r.dep.length dc, .string r.key, .string r.val, .int .i64 (n : Int)] (by go_simp) (.inr ⟨⟨bs, 0, none⟩, 1, rfl, fun j u hu => by rw [Addr.add_lit, Nat.zero_add, cellsAt hlit j]; simpa using hu⟩) rfl hslot.out (by unfold maxLen; omega) (by omega) hb3.size ?_
      intro v2 w4 hown2 hgrow2
      have hb4 : Below W.heap.size W w4 := hb3.grown hgrow2 hb3.size (fun j hj => (hown.lt j hj).1)
      refine ⟨hS _ hb4, ?_⟩
      refine HeadT.tail rfl (by kernel_rfl) ?_
      obtain ⟨d1, -, -, -, -, -⟩ := hS _ hb4
      have hsrc4 := hsrc2 w4 hb4
      simp only [Nat.zero_add, List.nil_append] at hown2
      obtain ⟨a2, cc2, rfl⟩ := ownsRow_slice hown2
      clear hown hgrow2 hlit hb3 hS hsrc hsrc2
      simp only [List.drop_succ_cons, List.drop_zero]
      go_wp2_with fail
      simp only [noPanic]
      go_wp2_with (at_builtin; refine wpList_append_src rfl _ _ 89 rfl W.heap.size 97 i0 _ 7 88 Tryz.underlying89 hi0 hz0 hz1 hz2 rfl (by decide) _ _ _ rfl hown2 _ (S.slots.length - 0) _ rfl hsrc4 hMc2 hone2.out (by unfold maxLen; omega) (by omega) hb4.size ?_)
      intro v3 w5 hown3 hgrow3
      have hb5 : Below W.heap.size W w5 := hb4.grown hgrow3 hb4.size (fun j hj => (hown2.lt j hj).1)
      have hrs : IsRSl w5 B v3 (insL l 0 ⟨⟨pos, n, r⟩, .slice da r.dep.length dc⟩) := by
        refine ⟨ownsRow_low ?_ hBW, fun s hs => ?_⟩
        · have e1 : (insL l 0 ⟨⟨pos, n, r⟩, .slice da r.dep.length dc⟩).length = 0 + 1 + (S.slots.length - 0) := by rw [insL_length _ _ _ (by omega)]; omega
          have e2 : (insL l 0 ⟨⟨pos, n, r⟩, .slice da r.dep.length dc⟩).flatMap RSl.cells = ((l.take 0).flatMap RSl.cells ++ [.int .i64 pos, .int .i64 r.site, .int .i64 r.seq, .slice da r.dep.length dc, .string r.key, .string r.val, .int .i64 (n : Int)]) ++ (l.drop 0).flatMap RSl.cells := by
            unfold insL
            simp [RSl.cells, List.flatMap_append, List.flatMap_cons]
          rw [e1, e2]
          simpa using hown3
        · rcases (ins_mem _ _ _ _).1 hs with h | rfl
          · exact own_below (Hr.out.deps s h) hb5
          · exact own_below HvW.out hb5
      have e5 := (hb5.cell (p := ⟨p, 1, none⟩) hplt).trans c1
      have l5 : w5.frozen? ⟨p, 1, none⟩ = false := (hb5.frozen (p := ⟨p, 1, none⟩) hplt).trans f1
      obtain ⟨I, T⟩ := rs_put (sl := insL S.slots 0 ⟨pos, n, r⟩) HWd.out hb5 hrs (by unfold insL; simp [← Hl.out]) hok2.out (by rw [insL_length _ _ _ hk]; omega)
      obtain ⟨a3, cc3, rfl⟩ := ownsRow_slice hown3
      have F := hide (show _ ∧ _ from ⟨I, T.of_touch TW.out⟩)
      clear I T hown3 hgrow3 hrs hb5 hown2 hb4 hsrc4 d1
      go_wp2_with fail
      go_end0
      exact ⟨rfl, F.out⟩
  · skip
    obtain ⟨WL, hWL⟩ : ∃ W3, W.drew.alloc (.cells #[.int .i64 pos, .int .i64 r.site, .int .i64 r.seq, .slice da r.dep.length dc, .string r.key, .string r.val, .int .i64 (n : Int)] 97) = W3 := ⟨_, rfl⟩
    have hbWL : Below W.heap.size W WL := by rw [← hWL]; exact hbd.alloc hbd.size _
    refine wpOp_val rfl rfl (v := .slice (some ⟨W.heap.size, 0, none⟩) 1 1) (w' := WL) (by rw [← hWL]; go_simp) ⟨hS _ hbWL, ?_⟩
    have hlit : WL.heap[W.heap.size]? = some (.cells #[.int .i64 pos, .int .i64 r.site, .int .i64 r.seq, .slice da r.dep.length dc, .string r.key, .string r.val, .int .i64 (n : Int)] 97 (0, 0)) := by rw [← hWL]; exact World.alloc_heap_new W.drew _
    refine HeadT.only 0 (by kernel_rfl) ?_
    obtain ⟨WA, hWA⟩ : ∃ WA, WL.alloc (.cells #[] 97) = WA := ⟨_, rfl⟩
    have hbWA : Below W.heap.size W WA := by rw [← hWA]; exact hbWL.alloc hbWL.size _
    have hrA : WA.ownsRow W.heap.size 97 7 (.slice (some ⟨WL.heap.size, 0, none⟩) 0 0) 0 [] := by rw [← hWA]; exact World.ownsRow_lit WL #[] 0 hbWL.size (by unfold maxLen; omega) rfl
    refine wpOp_val rfl rfl (v := .slice (some ⟨WL.heap.size, 0, none⟩) 0 0) (w' := WA) (by rw [← hWA]; go_simp) ⟨hS _ hbWA, ?_⟩
    refine HeadT.only 7 (by kernel_rfl) ?_
    refine wpOp_append rfl rfl _ _ 89 rfl W.heap.size 97 i0 _ 7 88 Tryz.underlying89 hi0 hz0 hz1 hz2 rfl (by decide) (.slice (some ⟨WL.heap.size, 0, none⟩) 0 0) 0 [] (by go_simp) hrA (.slice none 0 0) 0 _ (by go_simp) (hsrc WA hbWA) hMc hone.out (by unfold maxLen; omega) (by omega) hbWA.size ?_
    intro v1 W3 hown hgrowB
    have hb3 : Below W.heap.size W W3 := hbWA.grown hgrowB hbWA.size (fun j hj => (hrA.lt j hj).1)
    refine ⟨hS _ hb3, ?_⟩
    have hszL : WL.heap.size = W.heap.size + 1 := by rw [← hWL]; simp
    replace hlit : W3.heap[W.heap.size]? = _ := (hgrowB.block W.heap.size (by have := hbWA.size; have : WA.heap.size = WL.heap.size + 1 := (by rw [← hWA]; simp); omega) (fun e => by have h9 : some WL.heap.size = some W.heap.size := e.symm; simp only [Option.some.injEq] at h9; omega)).trans ((show WA.heap[W.heap.size]? = WL.heap[W.heap.size]? by rw [← hWA]; exact Below.heap_alloc _ _ _ (by omega)).trans hlit)
    obtain ⟨b0, hb0⟩ : ∃ b0, WL.heap.size = b0 := ⟨_, rfl⟩
    rw [hb0]
    obtain ⟨bs, hbs⟩ : ∃ bs, W.heap.size = bs := ⟨_, rfl⟩
    rw [hbs] at hlit ⊢
    clear hbs hb0 hWL hbWL hgrowB hWA hbWA hrA hszL
    refine HeadT.only 13 (by kernel_rfl) ?_
    refine wpOp_append rfl rfl _ _ 89 rfl W.heap.size 97 i0 _ 7 88 Tryz.underlying89 hi0 hz0 hz1 hz2 rfl (by decide) v1 (0 + 0) _ (by go_simp) hown (.slice (some ⟨bs, 0, none⟩) 1 1) 1 [.int .i64 pos, .int .i64 r.site, .int .i64 r.seq, .slice da r.dep.length dc, .string r.key, .string r.val, .int .i64 (n : Int)] (by go_simp) (.inr ⟨⟨bs, 0, none⟩, 1, rfl, fun j u hu => by rw [Addr.add_lit, Nat.zero_add, cellsAt hlit j]; simpa using hu⟩) rfl hslot.out (by unfold maxLen; omega) (by omega) hb3.size ?_
    intro v2 w4 hown2 hgrow2
    have hb4 : Below W.heap.size W w4 := hb3.grown hgrow2 hb3.size (fun j hj => (hown.lt j hj).1)
    refine ⟨hS _ hb4, ?_⟩
    refine HeadT.tail rfl (by kernel_rfl) ?_
    obtain ⟨d1, -, -, -, -, -⟩ := hS _ hb4
    have hsrc4 := hsrc2 w4 hb4
    simp only [Nat.zero_add, List.nil_append] at hown2
    obtain ⟨a2, cc2, rfl⟩ := ownsRow_slice hown2
    clear hown hgrow2 hlit hb3 hS hsrc hsrc2
    simp only [List.drop_succ_cons, List.drop_zero]
    go_wp2_with fail
    simp only [noPanic]
    go_wp2_with (at_builtin; refine wpList_append_src rfl _ _ 89 rfl W.heap.size 97 i0 _ 7 88 Tryz.underlying89 hi0 hz0 hz1 hz2 rfl (by decide) _ _ _ rfl hown2 _ (S.slots.length - 0) _ rfl hsrc4 hMc2 hone2.out (by unfold maxLen; omega) (by omega) hb4.size ?_)
    intro v3 w5 hown3 hgrow3
    have hb5 : Below W.heap.size W w5 := hb4.grown hgrow3 hb4.size (fun j hj => (hown2.lt j hj).1)
    have hrs : IsRSl w5 B v3 (insL l 0 ⟨⟨pos, n, r⟩, .slice da r.dep.length dc⟩) := by
      refine ⟨ownsRow_low ?_ hBW, fun s hs => ?_⟩
      · have e1 : (insL l 0 ⟨⟨pos, n, r⟩, .slice da r.dep.length dc⟩).length = 0 + 1 + (S.slots.length - 0) := by rw [insL_length _ _ _ (by omega)]; omega
        have e2 : (insL l 0 ⟨⟨pos, n, r⟩, .slice da r.dep.length dc⟩).flatMap RSl.cells = ((l.take 0).flatMap RSl.cells ++ [.int .i64 pos, .int .i64 r.site, .int .i64 r.seq, .slice da r.dep.length dc, .string r.key, .string r.val, .int .i64 (n : Int)]) ++ (l.drop 0).flatMap RSl.cells := by
          unfold insL
          simp [RSl.cells, List.flatMap_append, List.flatMap_cons]
        rw [e1, e2]
        simpa using hown3
      · rcases (ins_mem _ _ _ _).1 hs with h | rfl
        · exact own_below (Hr.out.deps s h) hb5
        · exact own_below HvW.out hb5
    have e5 := (hb5.cell (p := ⟨p, 1, none⟩) hplt).trans c1
    have l5 : w5.frozen? ⟨p, 1, none⟩ = false := (hb5.frozen (p := ⟨p, 1, none⟩) hplt).trans f1
    obtain ⟨I, T⟩ := rs_put (sl := insL S.slots 0 ⟨pos, n, r⟩) HWd.out hb5 hrs (by unfold insL; simp [← Hl.out]) hok2.out (by rw [insL_length _ _ _ hk]; omega)
    obtain ⟨a3, cc3, rfl⟩ := ownsRow_slice hown3
    have F := hide (show _ ∧ _ from ⟨I, T.of_touch TW.out⟩)
    clear I T hown3 hgrow3 hrs hb5 hown2 hb4 hsrc4 d1
    go_wp2_with fail
    go_end0
    exact ⟨rfl, F.out⟩

set_option maxHeartbeats 4000000 in
set_option maxRecDepth 100000 in
theorem refPut_eq (B p q : Nat) (S : SegD) (pos : Int) (r : RecD) (da : Option Addr) (dc : Nat) (n k : Nat) (bt : Bool) (w : World) (hB : B ≤ w.heap.size) (hvd : w.ownsRow B 3 1 (.slice da r.dep.length dc) r.dep.length (r.dep.map (Value.int .i64))) (hok : SegD.ok { S with slots := insL S.slots k ⟨pos, n, r⟩ }) (hf : S.slots.length < 1048576) (hk : k ≤ S.slots.length) (hd : IsRS w B p q S)
    (u1 : Hid (∀ W, Below w.heap.size w W → Calls Tryz.prog 71 #[.pointer (some ⟨p, 0, none⟩), .int .i64 pos] W fun e w' => e = .returned (.tuple #[.int .i64 (k : Int), .bool bt]) ∧ ∃ n, w' = W.drewN n))
    (g : Nat) (l : List RSl) (hl : l.map (·.x) = S.slots) (hp : w.heap[p]? = some (.cells #[ptrV q, (.slice (some ⟨g, 0, none⟩) S.slots.length k), .int .i64 S.sealed, .int .i64 S.trim] 91 (0, 0))) (hr : IsRSl w B (.slice (some ⟨g, 0, none⟩) S.slots.length k) l) (hkl : k = S.slots.length) :
    Calls Tryz.prog 72 #[.pointer (some ⟨p, 0, none⟩), .int .i64 pos, .agg #[.int .i64 r.site, .int .i64 r.seq, .slice da r.dep.length dc, .string r.key, .string r.val], .int .i64 (n : Int)] w fun e w' => e = .returned (.tuple #[]) ∧ IsRS w' B p q { S with slots := insL S.slots k ⟨pos, n, r⟩ } ∧ Touch (fun k => k = p) w w' := by
  obtain ⟨i0, hi0, hz0, hz1, hz2⟩ := info_parts Tryz.info97
  have HB := box_below w (.cells #[.int .i64 r.site, .int .i64 r.seq, .slice da r.dep.length dc, .string r.key, .string r.val] 95)
  obtain ⟨W1, hW1⟩ : ∃ W1, w.alloc (.cells #[.int .i64 r.site, .int .i64 r.seq, .slice da r.dep.length dc, .string r.key, .string r.val] 95) = W1 := ⟨_, rfl⟩
  have x0 : W1.heap[w.heap.size]? = some (.cells #[.int .i64 r.site, .int .i64 r.seq, .slice da r.dep.length dc, .string r.key, .string r.val] 95 (0, 0)) := by rw [← hW1]; exact World.alloc_heap_new w _
  rw [hW1] at HB
  have u2 := hide (u1.out W1 HB)
  have Hd := hide (hd.keep HB)
  have hok2 := hide hok
  have HW := hide hW1
  have X0 := hide x0
  have Hvd := hide (own_below hvd HB)
  clear hd hW1 x0 hvd hok u1
  go_enter Tryz.func72, Tryz.ntmps72
  go_wp2_with fail
  rw [HW.out]
  refine u2.out.mono ?_
  rintro e w' ⟨rfl, nq, rfl⟩
  obtain ⟨W, hW⟩ : ∃ W, W1.drewN nq = W := ⟨_, rfl⟩
  have hdW : IsRS W B p q S := by rw [← hW]; exact Hd.out.drews nq
  have hBW : B ≤ W.heap.size := by rw [← hW]; have := HB.size; exact Nat.le_trans hB this
  have TW := hide (show Below w.heap.size w W by rw [← hW]; exact HB.trans ((drewsB W1 nq).mono HB.size))
  have xW : W.heap[w.heap.size]? = some (.cells #[.int .i64 r.site, .int .i64 r.seq, .slice da r.dep.length dc, .string r.key, .string r.val] 95 (0, 0)) := by rw [← hW]; exact X0.out
  have HvW := hide (show W.ownsRow B 3 1 (.slice da r.dep.length dc) r.dep.length (r.dep.map (Value.int .i64)) by rw [← hW]; exact Hvd.out)
  have hpW : W.heap[p]? = some (.cells #[ptrV q, (.slice (some ⟨g, 0, none⟩) S.slots.length k), .int .i64 S.sealed, .int .i64 S.trim] 91 (0, 0)) := by rw [← hW]; exact keepB hp (HB.trans ((drewsB W1 nq).mono HB.size))
  have hrW : IsRSl W B (.slice (some ⟨g, 0, none⟩) S.slots.length k) l := by rw [← hW]; exact hr.below (HB.trans ((drewsB W1 nq).mono HB.size))
  rw [hW]
  clear hW u2 Hd X0 Hvd HB HW hp hr
  have hll : l.length = S.slots.length := by rw [← hl]; simp
  obtain ⟨c0, c1, c2, c3, f0, f1, f2, f3⟩ := cells4 hpW
  obtain ⟨k0, k1, k2, k3, k4, -, -, -, -, -⟩ := cells5 xW
  have hplt := ltAt hpW
  have hxlt := ltAt xW
  have Hr := hide hrW
  have HWd := hide hdW
  have Hl := hide hl
  clear hrW hpW hdW hl xW
  have hkI : (k : Int) ≤ (S.slots.length : Int) := by omega
  have hrl : IsRSl W B (.slice (some ⟨g, 0, none⟩) l.length k) l := by rw [hll]; exact Hr.out
  have hsrc : ∀ W', Below W.heap.size W W' → Src W' (.slice (some ⟨g, 0, none⟩) k k) k ((l.take k).flatMap RSl.cells) := fun W' h => src_take hrl h
  have hdk : l.drop k = [] := List.drop_eq_nil_of_le (by omega)
  have hsrc2 : ∀ W', Below W.heap.size W W' → Src W' (.slice (some ⟨g, 0, none⟩) (S.slots.length - k) 0) (S.slots.length - k) ((l.drop k).flatMap RSl.cells) := fun W' h => .inr ⟨⟨g, 0, none⟩, 0, rfl, fun j u hu => by rw [hdk] at hu; cases hu⟩
  clear hrl hdk hkl
  have hslot : Hid (∀ u ∈ [Value.int .i64 pos, .int .i64 r.site, .int .i64 r.seq, .slice da r.dep.length dc, .string r.key, .string r.val, .int .i64 (n : Int)], u.oneCell' = true) := rsl_one (s := ⟨⟨pos, n, r⟩, .slice da r.dep.length dc⟩) rfl
  have hone : Hid (∀ u ∈ (l.take k).flatMap RSl.cells, u.oneCell' = true) := rsls_one Hr.out (fun s hs => List.mem_of_mem_take hs)
  have hone2 : Hid (∀ u ∈ (l.drop k).flatMap RSl.cells, u.oneCell' = true) := rsls_one Hr.out (fun s hs => List.mem_of_mem_drop hs)
  have hMc : ((l.take k).flatMap RSl.cells).length = k * 7 := by rw [flat_len]; simp; omega
  have hMc2 : ((l.drop k).flatMap RSl.cells).length = (S.slots.length - k) * 7 := by rw [flat_len, List.length_drop, hll]
  have hS : ∀ W', Below W.heap.size W W' → W'.cell? ⟨p, 1, none⟩ = some (.slice (some ⟨g, 0, none⟩) S.slots.length k) ∧ W'.cell? ⟨w.heap.size, 0, none⟩ = some (.int .i64 r.site) ∧ W'.cell? ⟨w.heap.size, 1, none⟩ = some (.int .i64 r.seq) ∧ W'.cell? ⟨w.heap.size, 2, none⟩ = some (.slice da r.dep.length dc) ∧ W'.cell? ⟨w.heap.size, 3, none⟩ = some (.string r.key) ∧ W'.cell? ⟨w.heap.size, 4, none⟩ = some (.string r.val) := fun W' h =>
    ⟨(h.cell (p := ⟨p, 1, none⟩) hplt).trans c1, (h.cell (p := ⟨w.heap.size, 0, none⟩) hxlt).trans k0, (h.cell (p := ⟨w.heap.size, 1, none⟩) hxlt).trans k1, (h.cell (p := ⟨w.heap.size, 2, none⟩) hxlt).trans k2, (h.cell (p := ⟨w.heap.size, 3, none⟩) hxlt).trans k3, (h.cell (p := ⟨w.heap.size, 4, none⟩) hxlt).trans k4⟩
  have hbd : Below W.heap.size W W.drew := ⟨rfl, rfl, rfl, Nat.le_refl _, fun _ _ => rfl⟩
  go_wp2_with fail
  refine region_headT 14 (fun W' => W'.cell? ⟨p, 1, none⟩ = some (.slice (some ⟨g, 0, none⟩) S.slots.length k) ∧ W'.cell? ⟨w.heap.size, 0, none⟩ = some (.int .i64 r.site) ∧ W'.cell? ⟨w.heap.size, 1, none⟩ = some (.int .i64 r.seq) ∧ W'.cell? ⟨w.heap.size, 2, none⟩ = some (.slice da r.dep.length dc) ∧ W'.cell? ⟨w.heap.size, 3, none⟩ = some (.string r.key) ∧ W'.cell? ⟨w.heap.size, 4, none⟩ = some (.string r.val)) (by kernel_rfl) (by decide) ?_
  refine HeadT.take 1 (.pointer (some ⟨p, 0, none⟩)) rfl (by kernel_rfl) (.inl ⟨rfl, fun w2 ⟨s0, s1, s2, s3, s4, s5⟩ => by go_simp⟩) (hS _ hbd) ?_
  refine HeadT.take 2 (.pointer (some ⟨p, 0, none⟩)) rfl (by kernel_rfl) (.inl ⟨rfl, fun w2 ⟨s0, s1, s2, s3, s4, s5⟩ => by go_simp⟩) (hS _ hbd) ?_
  refine HeadT.take 3 (.pointer (some ⟨p, 1, none⟩)) rfl (by kernel_rfl) (.inl ⟨rfl, fun w2 ⟨s0, s1, s2, s3, s4, s5⟩ => by go_simp⟩) (hS _ hbd) ?_
  refine HeadT.take 4 (.slice (some ⟨g, 0, none⟩) S.slots.length k) rfl (by kernel_rfl) (.inl ⟨rfl, fun w2 ⟨s0, s1, s2, s3, s4, s5⟩ => by go_simp⟩) (hS _ hbd) ?_
  refine HeadT.take 5 (.int .i64 (k : Int)) rfl (by kernel_rfl) (.inl ⟨rfl, fun w2 ⟨s0, s1, s2, s3, s4, s5⟩ => by go_simp⟩) (hS _ hbd) ?_
  refine HeadT.take 6 (.slice (some ⟨g, 0, none⟩) k k) rfl (by kernel_rfl) (.inl ⟨rfl, fun w2 ⟨s0, s1, s2, s3, s4, s5⟩ => by go_simp⟩) (hS _ hbd) ?_
  refine HeadT.take 8 (.int .i64 pos) rfl (by kernel_rfl) (.inl ⟨rfl, fun w2 ⟨s0, s1, s2, s3, s4, s5⟩ => by go_simp⟩) (hS _ hbd) ?_
  refine HeadT.take 9 (.agg #[.int .i64 r.site, .int .i64 r.seq, .slice da r.dep.length dc, .string r.key, .string r.val]) rfl (by kernel_rfl) (.inl ⟨rfl, fun w2 ⟨s0, s1, s2, s3, s4, s5⟩ => by go_simp⟩) (hS _ hbd) ?_
  refine HeadT.take 10 (.int .i64 (n : Int)) rfl (by kernel_rfl) (.inl ⟨rfl, fun w2 ⟨s0, s1, s2, s3, s4, s5⟩ => by go_simp⟩) (hS _ hbd) ?_
  refine HeadT.take 11 (.agg #[.int .i64 pos, .int .i64 r.site, .int .i64 r.seq, .slice da r.dep.length dc, .string r.key, .string r.val, .int .i64 (n : Int)]) rfl (by kernel_rfl) (.inl ⟨rfl, fun w2 ⟨s0, s1, s2, s3, s4, s5⟩ => by go_simp⟩) (hS _ hbd) ?_
  refine HeadT.two 0 12 (by kernel_rfl) ?_ ?_
  · skip
    obtain ⟨WA, hWA⟩ : ∃ WA, W.drew.alloc (.cells #[] 97) = WA := ⟨_, rfl⟩
    have hbWA : Below W.heap.size W WA := by rw [← hWA]; exact hbd.alloc hbd.size _
    have hrA : WA.ownsRow W.heap.size 97 7 (.slice (some ⟨W.heap.size, 0, none⟩) 0 0) 0 [] := by rw [← hWA]; exact World.ownsRow_lit W.drew #[] 0 hbd.size (by unfold maxLen; omega) rfl
    refine wpOp_val rfl rfl (v := .slice (some ⟨W.heap.size, 0, none⟩) 0 0) (w' := WA) (by rw [← hWA]; go_simp) ⟨hS _ hbWA, ?_⟩
    refine HeadT.two 7 12 (by kernel_rfl) ?_ ?_
    · skip
      refine wpOp_append rfl rfl _ _ 89 rfl W.heap.size 97 i0 _ 7 88 Tryz.underlying89 hi0 hz0 hz1 hz2 rfl (by decide) (.slice (some ⟨W.heap.size, 0, none⟩) 0 0) 0 [] (by go_simp) hrA (.slice (some ⟨g, 0, none⟩) k k) k _ (by go_simp) (hsrc WA hbWA) hMc hone.out (by unfold maxLen; omega) (by omega) hbWA.size ?_
      intro v1 wB hownB hgrowB
      have hbB : Below W.heap.size W wB := hbWA.grown hgrowB hbWA.size (fun j hj => (hrA.lt j hj).1)
      refine ⟨hS _ hbB, ?_⟩
      refine HeadT.only 12 (by kernel_rfl) ?_
      obtain ⟨W3, hW3⟩ : ∃ W3, wB.alloc (.cells #[.int .i64 pos, .int .i64 r.site, .int .i64 r.seq, .slice da r.dep.length dc, .string r.key, .string r.val, .int .i64 (n : Int)] 97) = W3 := ⟨_, rfl⟩
      have hbW3 : Below W.heap.size W W3 := by rw [← hW3]; exact hbB.alloc hbB.size _
      refine wpOp_val rfl rfl (v := .slice (some ⟨wB.heap.size, 0, none⟩) 1 1) (w' := W3) (by rw [← hW3]; go_simp) ⟨hS _ hbW3, ?_⟩
      have hlit : W3.heap[wB.heap.size]? = some (.cells #[.int .i64 pos, .int .i64 r.site, .int .i64 r.seq, .slice da r.dep.length dc, .string r.key, .string r.val, .int .i64 (n : Int)] 97 (0, 0)) := by rw [← hW3]; exact World.alloc_heap_new wB _
      have hown : W3.ownsRow W.heap.size 97 7 v1 (0 + k) ([] ++ (l.take k).flatMap RSl.cells) := by rw [← hW3]; exact hownB.alloc _
      have hb3 := hbW3
      obtain ⟨bs, hbs⟩ : ∃ bs, wB.heap.size = bs := ⟨_, rfl⟩
      rw [hbs] at hlit ⊢
      clear hbs hW3 hbW3 hownB hgrowB hbB hWA hbWA hrA
      refine HeadT.only 13 (by kernel_rfl) ?_
      refine wpOp_append rfl rfl _ _ 89 rfl W.heap.size 97 i0 _ 7 88 Tryz.underlying89 hi0 hz0 hz1 hz2 rfl (by decide) v1 (0 + k) _ (by go_simp) hown (.slice (some ⟨bs, 0, none⟩) 1 1) 1 [.int .i64 pos, .int .i64 r.site, .int .i64 r.seq, .slice da r.dep.length dc, .string r.key, .string r.val, .int .i64 (n : Int)] (by go_simp) (.inr ⟨⟨bs, 0, none⟩, 1, rfl, fun j u hu => by rw [Addr.add_lit, Nat.zero_add, cellsAt hlit j]; simpa using hu⟩) rfl hslot.out (by unfold maxLen; omega) (by omega) hb3.size ?_
      intro v2 w4 hown2 hgrow2
      have hb4 : Below W.heap.size W w4 := hb3.grown hgrow2 hb3.size (fun j hj => (hown.lt j hj).1)
      refine ⟨hS _ hb4, ?_⟩
      refine HeadT.tail rfl (by kernel_rfl) ?_
      obtain ⟨d1, -, -, -, -, -⟩ := hS _ hb4
      have hsrc4 := hsrc2 w4 hb4
      simp only [Nat.zero_add, List.nil_append] at hown2
      obtain ⟨a2, cc2, rfl⟩ := ownsRow_slice hown2
      clear hown hgrow2 hlit hb3 hS hsrc hsrc2
      simp only [List.drop_succ_cons, List.drop_zero]
      go_wp2_with fail
      simp only [noPanic]
      go_wp2_with (at_builtin; refine wpList_append_src rfl _ _ 89 rfl W.heap.size 97 i0 _ 7 88 Tryz.underlying89 hi0 hz0 hz1 hz2 rfl (by decide) _ _ _ rfl hown2 _ (S.slots.length - k) _ rfl hsrc4 hMc2 hone2.out (by unfold maxLen; omega) (by omega) hb4.size ?_)
      intro v3 w5 hown3 hgrow3
      have hb5 : Below W.heap.size W w5 := hb4.grown hgrow3 hb4.size (fun j hj => (hown2.lt j hj).1)
      have hrs : IsRSl w5 B v3 (insL l k ⟨⟨pos, n, r⟩, .slice da r.dep.length dc⟩) := by
        refine ⟨ownsRow_low ?_ hBW, fun s hs => ?_⟩
        · have e1 : (insL l k ⟨⟨pos, n, r⟩, .slice da r.dep.length dc⟩).length = k + 1 + (S.slots.length - k) := by rw [insL_length _ _ _ (by omega)]; omega
          have e2 : (insL l k ⟨⟨pos, n, r⟩, .slice da r.dep.length dc⟩).flatMap RSl.cells = ((l.take k).flatMap RSl.cells ++ [.int .i64 pos, .int .i64 r.site, .int .i64 r.seq, .slice da r.dep.length dc, .string r.key, .string r.val, .int .i64 (n : Int)]) ++ (l.drop k).flatMap RSl.cells := by
            unfold insL
            simp [RSl.cells, List.flatMap_append, List.flatMap_cons]
          rw [e1, e2]
          simpa using hown3
        · rcases (ins_mem _ _ _ _).1 hs with h | rfl
          · exact own_below (Hr.out.deps s h) hb5
          · exact own_below HvW.out hb5
      have e5 := (hb5.cell (p := ⟨p, 1, none⟩) hplt).trans c1
      have l5 : w5.frozen? ⟨p, 1, none⟩ = false := (hb5.frozen (p := ⟨p, 1, none⟩) hplt).trans f1
      obtain ⟨I, T⟩ := rs_put (sl := insL S.slots k ⟨pos, n, r⟩) HWd.out hb5 hrs (by unfold insL; simp [← Hl.out]) hok2.out (by rw [insL_length _ _ _ hk]; omega)
      obtain ⟨a3, cc3, rfl⟩ := ownsRow_slice hown3
      have F := hide (show _ ∧ _ from ⟨I, T.of_touch TW.out⟩)
      clear I T hown3 hgrow3 hrs hb5 hown2 hb4 hsrc4 d1
      go_wp2_with fail
      go_end0
      exact ⟨rfl, F.out⟩
    · skip
      obtain ⟨WB, hWB⟩ : ∃ W3, WA.alloc (.cells #[.int .i64 pos, .int .i64 r.site, .int .i64 r.seq, .slice da r.dep.length dc, .string r.key, .string r.val, .int .i64 (n : Int)] 97) = W3 := ⟨_, rfl⟩
      have hbWB : Below W.heap.size W WB := by rw [← hWB]; exact hbWA.alloc hbWA.size _
      refine wpOp_val rfl rfl (v := .slice (some ⟨WA.heap.size, 0, none⟩) 1 1) (w' := WB) (by rw [← hWB]; go_simp) ⟨hS _ hbWB, ?_⟩
      have hlit : WB.heap[WA.heap.size]? = some (.cells #[.int .i64 pos, .int .i64 r.site, .int .i64 r.seq, .slice da r.dep.length dc, .string r.key, .string r.val, .int .i64 (n : Int)] 97 (0, 0)) := by rw [← hWB]; exact World.alloc_heap_new WA _
      refine HeadT.only 7 (by kernel_rfl) ?_
      have hrB : WB.ownsRow W.heap.size 97 7 (.slice (some ⟨W.heap.size, 0, none⟩) 0 0) 0 [] := by rw [← hWB]; exact hrA.alloc _
      refine wpOp_append rfl rfl _ _ 89 rfl W.heap.size 97 i0 _ 7 88 Tryz.underlying89 hi0 hz0 hz1 hz2 rfl (by decide) (.slice (some ⟨W.heap.size, 0, none⟩) 0 0) 0 [] (by go_simp) hrB (.slice (some ⟨g, 0, none⟩) k k) k _ (by go_simp) (hsrc WB hbWB) hMc hone.out (by unfold maxLen; omega) (by omega) hbWB.size ?_
      intro v1 W3 hown hgrowB
      have hb3 : Below W.heap.size W W3 := hbWB.grown hgrowB hbWB.size (fun j hj => (hrB.lt j hj).1)
      refine ⟨hS _ hb3, ?_⟩
      replace hlit : W3.heap[WA.heap.size]? = _ := (hgrowB.block WA.heap.size (ltAt hlit) (fun e => by have h9 : some W.heap.size = some WA.heap.size := e.symm; simp only [Option.some.injEq] at h9; have h8 : WA.heap.size = W.heap.size + 1 := (by rw [← hWA]; simp); omega)).trans hlit
      obtain ⟨bs, hbs⟩ : ∃ bs, WA.heap.size = bs := ⟨_, rfl⟩
      rw [hbs] at hlit ⊢
      clear hbs hWB hbWB hgrowB hWA hbWA hrA hrB
      refine HeadT.only 13 (by kernel_rfl) ?_
      refine wpOp_append rfl rfl _ _ 89 rfl W.heap.size 97 i0 _ 7 88 Tryz.underlying89 hi0 hz0 hz1 hz2 rfl (by decide) v1 (0 + k) _ (by go_simp) hown (.slice (some ⟨bs, 0, none⟩) 1 1) 1 [.int .i64 pos, .int .i64 r.site, .int .i64 r.seq, .slice da r.dep.length dc, .string r.key, .string r.val, .int .i64 (n : Int)] (by go_simp) (.inr ⟨⟨bs, 0, none⟩, 1, rfl, fun j u hu => by rw [Addr.add_lit, Nat.zero_add, cellsAt hlit j]; simpa using hu⟩) rfl hslot.out (by unfold maxLen; omega) (by omega) hb3.size ?_
      intro v2 w4 hown2 hgrow2
      have hb4 : Below W.heap.size W w4 := hb3.grown hgrow2 hb3.size (fun j hj => (hown.lt j hj).1)
      refine ⟨hS _ hb4, ?_⟩
      refine HeadT.tail rfl (by kernel_rfl) ?_
      obtain ⟨d1, -, -, -, -, -⟩ := hS _ hb4
      have hsrc4 := hsrc2 w4 hb4
      simp only [Nat.zero_add, List.nil_append] at hown2
      obtain ⟨a2, cc2, rfl⟩ := ownsRow_slice hown2
      clear hown hgrow2 hlit hb3 hS hsrc hsrc2
      simp only [List.drop_succ_cons, List.drop_zero]
      go_wp2_with fail
      simp only [noPanic]
      go_wp2_with (at_builtin; refine wpList_append_src rfl _ _ 89 rfl W.heap.size 97 i0 _ 7 88 Tryz.underlying89 hi0 hz0 hz1 hz2 rfl (by decide) _ _ _ rfl hown2 _ (S.slots.length - k) _ rfl hsrc4 hMc2 hone2.out (by unfold maxLen; omega) (by omega) hb4.size ?_)
      intro v3 w5 hown3 hgrow3
      have hb5 : Below W.heap.size W w5 := hb4.grown hgrow3 hb4.size (fun j hj => (hown2.lt j hj).1)
      have hrs : IsRSl w5 B v3 (insL l k ⟨⟨pos, n, r⟩, .slice da r.dep.length dc⟩) := by
        refine ⟨ownsRow_low ?_ hBW, fun s hs => ?_⟩
        · have e1 : (insL l k ⟨⟨pos, n, r⟩, .slice da r.dep.length dc⟩).length = k + 1 + (S.slots.length - k) := by rw [insL_length _ _ _ (by omega)]; omega
          have e2 : (insL l k ⟨⟨pos, n, r⟩, .slice da r.dep.length dc⟩).flatMap RSl.cells = ((l.take k).flatMap RSl.cells ++ [.int .i64 pos, .int .i64 r.site, .int .i64 r.seq, .slice da r.dep.length dc, .string r.key, .string r.val, .int .i64 (n : Int)]) ++ (l.drop k).flatMap RSl.cells := by
            unfold insL
            simp [RSl.cells, List.flatMap_append, List.flatMap_cons]
          rw [e1, e2]
          simpa using hown3
        · rcases (ins_mem _ _ _ _).1 hs with h | rfl
          · exact own_below (Hr.out.deps s h) hb5
          · exact own_below HvW.out hb5
      have e5 := (hb5.cell (p := ⟨p, 1, none⟩) hplt).trans c1
      have l5 : w5.frozen? ⟨p, 1, none⟩ = false := (hb5.frozen (p := ⟨p, 1, none⟩) hplt).trans f1
      obtain ⟨I, T⟩ := rs_put (sl := insL S.slots k ⟨pos, n, r⟩) HWd.out hb5 hrs (by unfold insL; simp [← Hl.out]) hok2.out (by rw [insL_length _ _ _ hk]; omega)
      obtain ⟨a3, cc3, rfl⟩ := ownsRow_slice hown3
      have F := hide (show _ ∧ _ from ⟨I, T.of_touch TW.out⟩)
      clear I T hown3 hgrow3 hrs hb5 hown2 hb4 hsrc4 d1
      go_wp2_with fail
      go_end0
      exact ⟨rfl, F.out⟩
  · skip
    obtain ⟨WL, hWL⟩ : ∃ W3, W.drew.alloc (.cells #[.int .i64 pos, .int .i64 r.site, .int .i64 r.seq, .slice da r.dep.length dc, .string r.key, .string r.val, .int .i64 (n : Int)] 97) = W3 := ⟨_, rfl⟩
    have hbWL : Below W.heap.size W WL := by rw [← hWL]; exact hbd.alloc hbd.size _
    refine wpOp_val rfl rfl (v := .slice (some ⟨W.heap.size, 0, none⟩) 1 1) (w' := WL) (by rw [← hWL]; go_simp) ⟨hS _ hbWL, ?_⟩
    have hlit : WL.heap[W.heap.size]? = some (.cells #[.int .i64 pos, .int .i64 r.site, .int .i64 r.seq, .slice da r.dep.length dc, .string r.key, .string r.val, .int .i64 (n : Int)] 97 (0, 0)) := by rw [← hWL]; exact World.alloc_heap_new W.drew _
    refine HeadT.only 0 (by kernel_rfl) ?_
    obtain ⟨WA, hWA⟩ : ∃ WA, WL.alloc (.cells #[] 97) = WA := ⟨_, rfl⟩
    have hbWA : Below W.heap.size W WA := by rw [← hWA]; exact hbWL.alloc hbWL.size _
    have hrA : WA.ownsRow W.heap.size 97 7 (.slice (some ⟨WL.heap.size, 0, none⟩) 0 0) 0 [] := by rw [← hWA]; exact World.ownsRow_lit WL #[] 0 hbWL.size (by unfold maxLen; omega) rfl
    refine wpOp_val rfl rfl (v := .slice (some ⟨WL.heap.size, 0, none⟩) 0 0) (w' := WA) (by rw [← hWA]; go_simp) ⟨hS _ hbWA, ?_⟩
    refine HeadT.only 7 (by kernel_rfl) ?_
    refine wpOp_append rfl rfl _ _ 89 rfl W.heap.size 97 i0 _ 7 88 Tryz.underlying89 hi0 hz0 hz1 hz2 rfl (by decide) (.slice (some ⟨WL.heap.size, 0, none⟩) 0 0) 0 [] (by go_simp) hrA (.slice (some ⟨g, 0, none⟩) k k) k _ (by go_simp) (hsrc WA hbWA) hMc hone.out (by unfold maxLen; omega) (by omega) hbWA.size ?_
    intro v1 W3 hown hgrowB
    have hb3 : Below W.heap.size W W3 := hbWA.grown hgrowB hbWA.size (fun j hj => (hrA.lt j hj).1)
    refine ⟨hS _ hb3, ?_⟩
    have hszL : WL.heap.size = W.heap.size + 1 := by rw [← hWL]; simp
    replace hlit : W3.heap[W.heap.size]? = _ := (hgrowB.block W.heap.size (by have := hbWA.size; have : WA.heap.size = WL.heap.size + 1 := (by rw [← hWA]; simp); omega) (fun e => by have h9 : some WL.heap.size = some W.heap.size := e.symm; simp only [Option.some.injEq] at h9; omega)).trans ((show WA.heap[W.heap.size]? = WL.heap[W.heap.size]? by rw [← hWA]; exact Below.heap_alloc _ _ _ (by omega)).trans hlit)
    obtain ⟨b0, hb0⟩ : ∃ b0, WL.heap.size = b0 := ⟨_, rfl⟩
    rw [hb0]
    obtain ⟨bs, hbs⟩ : ∃ bs, W.heap.size = bs := ⟨_, rfl⟩
    rw [hbs] at hlit ⊢
    clear hbs hb0 hWL hbWL hgrowB hWA hbWA hrA hszL
    refine HeadT.only 13 (by kernel_rfl) ?_
    refine wpOp_append rfl rfl _ _ 89 rfl W.heap.size 97 i0 _ 7 88 Tryz.underlying89 hi0 hz0 hz1 hz2 rfl (by decide) v1 (0 + k) _ (by go_simp) hown (.slice (some ⟨bs, 0, none⟩) 1 1) 1 [.int .i64 pos, .int .i64 r.site, .int .i64 r.seq, .slice da r.dep.length dc, .string r.key, .string r.val, .int .i64 (n : Int)] (by go_simp) (.inr ⟨⟨bs, 0, none⟩, 1, rfl, fun j u hu => by rw [Addr.add_lit, Nat.zero_add, cellsAt hlit j]; simpa using hu⟩) rfl hslot.out (by unfold maxLen; omega) (by omega) hb3.size ?_
    intro v2 w4 hown2 hgrow2
    have hb4 : Below W.heap.size W w4 := hb3.grown hgrow2 hb3.size (fun j hj => (hown.lt j hj).1)
    refine ⟨hS _ hb4, ?_⟩
    refine HeadT.tail rfl (by kernel_rfl) ?_
    obtain ⟨d1, -, -, -, -, -⟩ := hS _ hb4
    have hsrc4 := hsrc2 w4 hb4
    simp only [Nat.zero_add, List.nil_append] at hown2
    obtain ⟨a2, cc2, rfl⟩ := ownsRow_slice hown2
    clear hown hgrow2 hlit hb3 hS hsrc hsrc2
    simp only [List.drop_succ_cons, List.drop_zero]
    go_wp2_with fail
    simp only [noPanic]
    go_wp2_with (at_builtin; refine wpList_append_src rfl _ _ 89 rfl W.heap.size 97 i0 _ 7 88 Tryz.underlying89 hi0 hz0 hz1 hz2 rfl (by decide) _ _ _ rfl hown2 _ (S.slots.length - k) _ rfl hsrc4 hMc2 hone2.out (by unfold maxLen; omega) (by omega) hb4.size ?_)
    intro v3 w5 hown3 hgrow3
    have hb5 : Below W.heap.size W w5 := hb4.grown hgrow3 hb4.size (fun j hj => (hown2.lt j hj).1)
    have hrs : IsRSl w5 B v3 (insL l k ⟨⟨pos, n, r⟩, .slice da r.dep.length dc⟩) := by
      refine ⟨ownsRow_low ?_ hBW, fun s hs => ?_⟩
      · have e1 : (insL l k ⟨⟨pos, n, r⟩, .slice da r.dep.length dc⟩).length = k + 1 + (S.slots.length - k) := by rw [insL_length _ _ _ (by omega)]; omega
        have e2 : (insL l k ⟨⟨pos, n, r⟩, .slice da r.dep.length dc⟩).flatMap RSl.cells = ((l.take k).flatMap RSl.cells ++ [.int .i64 pos, .int .i64 r.site, .int .i64 r.seq, .slice da r.dep.length dc, .string r.key, .string r.val, .int .i64 (n : Int)]) ++ (l.drop k).flatMap RSl.cells := by
          unfold insL
          simp [RSl.cells, List.flatMap_append, List.flatMap_cons]
        rw [e1, e2]
        simpa using hown3
      · rcases (ins_mem _ _ _ _).1 hs with h | rfl
        · exact own_below (Hr.out.deps s h) hb5
        · exact own_below HvW.out hb5
    have e5 := (hb5.cell (p := ⟨p, 1, none⟩) hplt).trans c1
    have l5 : w5.frozen? ⟨p, 1, none⟩ = false := (hb5.frozen (p := ⟨p, 1, none⟩) hplt).trans f1
    obtain ⟨I, T⟩ := rs_put (sl := insL S.slots k ⟨pos, n, r⟩) HWd.out hb5 hrs (by unfold insL; simp [← Hl.out]) hok2.out (by rw [insL_length _ _ _ hk]; omega)
    obtain ⟨a3, cc3, rfl⟩ := ownsRow_slice hown3
    have F := hide (show _ ∧ _ from ⟨I, T.of_touch TW.out⟩)
    clear I T hown3 hgrow3 hrs hb5 hown2 hb4 hsrc4 d1
    go_wp2_with fail
    go_end0
    exact ⟨rfl, F.out⟩

theorem refPut_calls (B p q : Nat) (S : SegD) (pos : Int) (r : RecD) (vd : Value) (n : Nat) (w : World) (hd : IsRS w B p q S) (hB : B ≤ w.heap.size) (hvd : w.ownsRow B 3 1 vd r.dep.length (r.dep.map (Value.int .i64))) (hok : SegD.ok { S with slots := insL S.slots (belowN (poss S) pos) ⟨pos, n, r⟩ }) (hf : S.slots.length < 1048576) :
    Calls Tryz.prog 72 #[.pointer (some ⟨p, 0, none⟩), .int .i64 pos, .agg #[.int .i64 r.site, .int .i64 r.seq, vd, .string r.key, .string r.val], .int .i64 (n : Int)] w fun e w' => e = .returned (.tuple #[]) ∧ IsRS w' B p q { S with slots := insL S.slots (belowN (poss S) pos) ⟨pos, n, r⟩ } ∧ Touch (fun k => k = p) w w' := by
  obtain ⟨da, dc, rfl⟩ := ownsRow_slice hvd
  have hk : belowN (poss S) pos ≤ S.slots.length := by have := belowN_le (poss S) pos; rw [poss_length] at this; exact this
  have u1 := hide (fun W (h : Below w.heap.size w W) => refAt_calls B p q S pos W (hd.keep h))
  obtain ⟨v, l, hl, hp, hr⟩ := hd.val
  have hll : l.length = S.slots.length := by rw [← hl]; simp
  generalize belowN (poss S) pos = k at *
  generalize isAt (poss S) pos = bt at *
  rcases hr.row.2 with ⟨rfl, h0⟩ | ⟨g, cap, cur, rfl, _, _, h1, _⟩
  · exact refPut_none B p q S pos r da dc n k bt w hB hvd hok hf hk hd u1 l hl hp hr (by omega) (by omega)
  · rw [hll] at hp hr
    by_cases hkc : k = cap
    · subst hkc
      exact refPut_eq B p q S pos r da dc n k bt w hB hvd hok hf hk hd u1 g l hl hp hr (by omega)
    · exact refPut_lt B p q S pos r da dc n k bt w hB hvd hok hf hk hd u1 g cap l hl hp hr (by omega)

end Go.Proofs.YtncmocmmkbmmjaaGreatDoor

/- The reference's segments: a line. Own work; no statement. -/
set_option linter.unusedSimpArgs false
set_option linter.unusedVariables false
namespace Go.Proofs.YtncmocmmkbmmjaaGreatDoor
open Go.RowKit Go.Shelf Go.Sort

/-- May the line stand there; what it makes of a segment. -/
def lineB (S : SegD) (L : List UInt8) : Bool := match parseE L with
  | none => false
  | some e => mayS S e
def lineS (S : SegD) (L : List UInt8) (n : Nat) : SegD := match parseE L with
  | none => S
  | some e => if mayS S e = true then applyS S e n else S

theorem line_none {S : SegD} {L : List UInt8} {n : Nat} (h : parseE L = none) : lineB S L = false ∧ lineS S L n = S := by
  unfold lineB lineS
  rw [h]
  exact ⟨rfl, rfl⟩
theorem line_no {S : SegD} {L : List UInt8} {n : Nat} {e : EntD} (h : parseE L = some e) (hm : mayS S e = false) : lineB S L = false ∧ lineS S L n = S := by
  unfold lineB lineS
  rw [h]
  dsimp only
  rw [hm]
  exact ⟨rfl, rfl⟩
theorem line_yes {S : SegD} {L : List UInt8} {n : Nat} {e : EntD} (h : parseE L = some e) (hm : mayS S e = true) : lineB S L = true ∧ lineS S L n = applyS S e n := by
  unfold lineB lineS
  rw [h]
  dsimp only
  rw [hm]
  exact ⟨rfl, rfl⟩

theorem bytes_two {s : ByteArray} (h3 : 3 ≤ s.size) (h1 : s[1]'(by omega) = 32) : s.data.toList = (s[0]'(by omega)) :: 32 :: s.data.toList.drop 2 := by
  have hl : 3 ≤ s.data.toList.length := by rw [← Lib.size_eq]; exact h3
  have e0 : s.data.toList[0] = s[0]'(by omega) := rfl
  have e1 : s.data.toList[1] = s[1]'(by omega) := rfl
  have a := List.drop_eq_getElem_cons (l := s.data.toList) (i := 0) (by omega)
  have b := List.drop_eq_getElem_cons (l := s.data.toList) (i := 1) (by omega)
  rw [List.drop_zero] at a
  rw [b, e0, e1, h1] at a
  exact a

set_option maxHeartbeats 4000000 in
set_option maxRecDepth 100000 in
theorem refLine_short (B p q : Nat) (S : SegD) (s : ByteArray) (n : Nat) (w : World) (hd : IsRS w B p q S) (hs : s.size ≤ 1048576) (h : s.size < 3 ∨ ∃ (h : 3 ≤ s.size), ¬ s[1]'(by omega) = 32) :
    Calls Tryz.prog 43 #[.pointer (some ⟨p, 0, none⟩), .string s, .int .i64 (n : Int)] w fun e w' => e = .returned (.bool (lineB S s.data.toList)) ∧ IsRS w' B p q (lineS S s.data.toList n) ∧ Touch (fun k => k = p) w w' := by
  have hP : parseE s.data.toList = none := parseE_short _ (h.imp (fun h => by rw [← Lib.size_eq]; exact h) (fun ⟨h, h1⟩ e => h1 (by
    have hl : 1 < s.data.toList.length := by rw [← Lib.size_eq]; omega
    rw [List.getElem?_eq_getElem hl] at e
    exact Option.some.inj e)))
  obtain ⟨e1, e2⟩ := line_none (S := S) (n := n) hP
  rw [e1, e2]
  have Hd := hide hd
  clear hP e1 e2 hd
  rcases h with h | ⟨h3, h1⟩
  · have hI : (s.size : Int) < 3 := by omega
    go_enter Tryz.func43, Tryz.ntmps43
    go_wp2_with fail
    go_ret
    exact ⟨rfl, Hd.out, Touch.refl _ _⟩
  · have hI : ¬ (s.size : Int) < 3 := by omega
    have h1' : (((s[1]'(by omega)).toNat : Int) != 32) = true := by
      rw [bne_iff_ne]
      intro e
      exact h1 (UInt8.toNat_inj.1 (by have : (s[1]'(by omega)).toNat = 32 := by omega
                                      exact this))
    have hlt1 : 1 < s.size := by omega
    go_enter Tryz.func43, Tryz.ntmps43
    go_wp2_with fail
    go_ret
    exact ⟨rfl, Hd.out, Touch.refl _ _⟩

end Go.Proofs.YtncmocmmkbmmjaaGreatDoor

/- The reference's segments: lines of numbers. Own work; no statement. -/
set_option linter.unusedSimpArgs false
set_option linter.unusedVariables false
namespace Go.Proofs.YtncmocmmkbmmjaaGreatDoor
open Go.RowKit Go.Shelf Go.Sort

/-- Its seal is set. -/
theorem rs_seal {w : World} {B p q : Nat} {S : SegD} {n : Int} (hd : IsRS w B p q S) (hok : SegD.ok { S with sealed := n }) : IsRS (w.setCell ⟨p, 2, none⟩ (.int .i64 n)) B p q { S with sealed := n } ∧ Touch (fun k => k = p) w (w.setCell ⟨p, 2, none⟩ (.int .i64 n)) := by
  obtain ⟨v, l, hl, hp, hr⟩ := hd.val
  refine ⟨⟨hok, hd.few, hd.low, v, l, hl, by simpa using setAt (j := 2) hp (.int .i64 n), hr.keep fun k c ty hk hty => Below.heap_setCell _ _ _ _ fun e => ?_⟩, touch_set _ _ _ rfl⟩
  have e' : k = p := e
  subst e'
  rw [hp] at hk
  simp only [Option.some.injEq, Obj.cells.injEq] at hk
  rcases hty with h | h
  · exact absurd (hk.2.1.trans h) (by decide)
  · exact absurd (hk.2.1.trans h) (by decide)

theorem byte_is {c d : UInt8} (h : c = d) : ((c.toNat : Int) == (d.toNat : Int)) = true := by subst h; simp
theorem byte_isnt {c d : UInt8} (h : ¬ c = d) : ((c.toNat : Int) == (d.toNat : Int)) = false := by
  rw [beq_eq_false_iff_ne]
  intro e
  exact h (UInt8.toNat_inj.1 (by omega))

theorem tail_data (s : ByteArray) : (s.extract 2 s.size).data.toList = s.data.toList.drop 2 := by
  rw [extract_data, List.take_of_length_le]
  rw [List.length_drop, ← Lib.size_eq]
  omega

set_option maxHeartbeats 4000000 in
set_option maxRecDepth 100000 in
theorem refLine_num (B p q : Nat) (S : SegD) (s : ByteArray) (n : Nat) (w : World) (hd : IsRS w B p q S) (hB : B ≤ w.heap.size) (hs : s.size ≤ 1048576) (h3 : 3 ≤ s.size) (h1 : s[1]'(by omega) = 32) (h0 : ¬ s[0]'(by omega) = 112) :
    Calls Tryz.prog 43 #[.pointer (some ⟨p, 0, none⟩), .string s, .int .i64 (n : Int)] w fun e w' => e = .returned (.bool (lineB S s.data.toList)) ∧ IsRS w' B p q (lineS S s.data.toList n) ∧ Touch (fun k => k = p) w w' := by
  have hL := bytes_two h3 h1
  have hP := parseE_two (s[0]'(by omega)) (s.data.toList.drop 2)
  rw [← hL, if_neg h0] at hP
  have u1 := hide (fun w => refNumberAny_calls (s.extract 2 s.size) w (by have := extract_le s 2 s.size; omega))
  rw [tail_data] at u1
  have hrg := numL_range (s.data.toList.drop 2)
  have hI : ¬ (s.size : Int) < 3 := by omega
  have h1' : (((s[1]'(by omega)).toNat : Int) != 32) = false := by rw [h1]; rfl
  have hlt0 : 0 < s.size := by omega
  have hlt1 : 1 < s.size := by omega
  have g0 : ((((s[0]'(by omega)).toNat : Nat) : Int) == 112) = false := byte_isnt h0
  have hnE : ∀ d, numE d (s.data.toList.drop 2) = if (numL (s.data.toList.drop 2)).2 = true then some ⟨d, (numL (s.data.toList.drop 2)).1, zeroR⟩ else none := fun _ => rfl
  rw [hnE, hnE, hnE] at hP
  obtain ⟨v, l, hl, hp, hr⟩ := hd.val
  obtain ⟨c0, c1, c2, c3, f0, f1, f2, f3⟩ := cells4 hp
  have b1 := hd.ok.sealed0
  have b2 := hd.ok.sealed1
  have b3 := hd.ok.trim0
  have b4 := hd.ok.trim1
  have Hd := hide hd
  generalize s.data.toList = L at *
  generalize numL (L.drop 2) = nv at *
  obtain ⟨x, ok⟩ := nv
  dsimp only at *
  clear hd hp hr hL hnE c0 c1 f0 f1
  cases ok with
  | false =>
    simp only [Bool.false_eq_true, if_false, ite_self] at hP
    obtain ⟨e1, e2⟩ := line_none (S := S) (n := n) hP
    rw [e1, e2]
    clear hP e1 e2 hrg
    go_enter Tryz.func43, Tryz.ntmps43
    go_wp2_with (go_at_call 69; refine (u1.out _).mono ?_; rintro e w' ⟨rfl, hw'⟩; subst hw')
    go_ret
    exact ⟨rfl, Hd.out, Touch.refl _ _⟩
  | true =>
    simp only [if_true] at hP
    obtain ⟨x0, x1⟩ := hrg rfl
    by_cases hc1 : s[0]'(by omega) = 115
    · rw [if_pos hc1] at hP
      have g1 : ((((s[0]'(by omega)).toNat : Nat) : Int) == 115) = true := byte_is hc1
      by_cases hx : x ≤ S.sealed
      · obtain ⟨e1, e2⟩ := line_no (S := S) (n := n) hP (by unfold mayS; dsimp only; rw [if_neg (by decide), if_pos rfl, decide_eq_false (by omega)])
        rw [e1, e2]
        clear hP e1 e2 hrg h0 hc1
        go_enter Tryz.func43, Tryz.ntmps43
        go_wp2_with (go_at_call 69; refine (u1.out _).mono ?_; rintro e w' ⟨rfl, hw'⟩; subst hw')
        go_ret
        exact ⟨rfl, Hd.out, Touch.refl _ _⟩
      · obtain ⟨e1, e2⟩ := line_yes (S := S) (n := n) hP (by unfold mayS; dsimp only; rw [if_neg (by decide), if_pos rfl, decide_eq_true (by omega)])
        have e3 : applyS S ⟨115, x, zeroR⟩ n = { S with sealed := x } := by unfold applyS; dsimp only; rw [if_neg (by decide), if_pos rfl]
        rw [e1, e2, e3]
        have F := hide (rs_seal Hd.out (seal_ok Hd.out.ok (show S.sealed < x by omega) x1))
        clear hP e1 e2 e3 hrg h0 hc1
        go_enter Tryz.func43, Tryz.ntmps43
        go_wp2_with (go_at_call 69; refine (u1.out _).mono ?_; rintro e w' ⟨rfl, hw'⟩; subst hw')
        go_ret
        exact ⟨rfl, F.out⟩
    · rw [if_neg hc1] at hP
      have g1 : ((((s[0]'(by omega)).toNat : Nat) : Int) == 115) = false := byte_isnt hc1
      by_cases hc2 : s[0]'(by omega) = 99
      · rw [if_pos hc2] at hP
        have g2 : ((((s[0]'(by omega)).toNat : Nat) : Int) == 99) = true := byte_is hc2
        obtain ⟨e1, e2⟩ := line_yes (S := S) (n := n) hP rfl
        have e3 : applyS S ⟨99, x, zeroR⟩ n = { S with slots := S.slots.take (belowN (poss S) x) } := by unfold applyS; dsimp only; rw [if_neg (by decide), if_neg (by decide), if_pos rfl]
        rw [e1, e2, e3]
        have u2 := hide (refAbove_calls B p q S x w Hd.out hB)
        clear hP e1 e2 e3 hrg h0 hc1 hc2
        go_enter Tryz.func43, Tryz.ntmps43
        go_wp2_with (first | (go_at_call 69; refine (u1.out _).mono ?_; rintro e w' ⟨rfl, hw'⟩; subst hw') | (go_at_call 73; refine u2.out.mono ?_; rintro e w2 ⟨rfl, hF⟩))
        go_ret
        exact ⟨rfl, hF⟩
      · rw [if_neg hc2] at hP
        have g2 : ((((s[0]'(by omega)).toNat : Nat) : Int) == 99) = false := byte_isnt hc2
        by_cases hc3 : s[0]'(by omega) = 116
        · rw [if_pos hc3] at hP
          have g3 : ((((s[0]'(by omega)).toNat : Nat) : Int) == 116) = true := byte_is hc3
          by_cases hx : x ≤ S.trim
          · obtain ⟨e1, e2⟩ := line_no (S := S) (n := n) hP (by unfold mayS; dsimp only; rw [if_neg (by decide), if_neg (by decide), if_pos rfl, decide_eq_false (by omega)])
            rw [e1, e2]
            clear hP e1 e2 hrg h0 hc1 hc2 hc3
            go_enter Tryz.func43, Tryz.ntmps43
            go_wp2_with (go_at_call 69; refine (u1.out _).mono ?_; rintro e w' ⟨rfl, hw'⟩; subst hw')
            go_ret
            exact ⟨rfl, Hd.out, Touch.refl _ _⟩
          · obtain ⟨e1, e2⟩ := line_yes (S := S) (n := n) hP (by unfold mayS; dsimp only; rw [if_neg (by decide), if_neg (by decide), if_pos rfl, decide_eq_true (by omega)])
            have e3 : applyS S ⟨116, x, zeroR⟩ n = { S with slots := S.slots.drop (belowN (poss S) x), trim := x } := by unfold applyS; dsimp only; rw [if_neg (by decide), if_neg (by decide), if_neg (by decide), if_pos rfl]
            rw [e1, e2, e3]
            have u2 := hide (refBelow_calls B p q S x w Hd.out hB (by omega) x1)
            clear hP e1 e2 e3 hrg h0 hc1 hc2 hc3
            go_enter Tryz.func43, Tryz.ntmps43
            go_wp2_with (first | (go_at_call 69; refine (u1.out _).mono ?_; rintro e w' ⟨rfl, hw'⟩; subst hw') | (go_at_call 74; refine u2.out.mono ?_; rintro e w2 ⟨rfl, hF⟩))
            go_ret
            exact ⟨rfl, hF⟩
        · rw [if_neg hc3] at hP
          have g3 : ((((s[0]'(by omega)).toNat : Nat) : Int) == 116) = false := byte_isnt hc3
          obtain ⟨e1, e2⟩ := line_none (S := S) (n := n) hP
          rw [e1, e2]
          clear hP e1 e2 hrg h0 hc1 hc2 hc3
          go_enter Tryz.func43, Tryz.ntmps43
          go_wp2_with (go_at_call 69; refine (u1.out _).mono ?_; rintro e w' ⟨rfl, hw'⟩; subst hw')
          go_ret
          exact ⟨rfl, Hd.out, Touch.refl _ _⟩

end Go.Proofs.YtncmocmmkbmmjaaGreatDoor

/- The reference's segments: lines of records; any line. Own work; no statement. -/
set_option linter.unusedSimpArgs false
set_option linter.unusedVariables false
namespace Go.Proofs.YtncmocmmkbmmjaaGreatDoor
open Go.RowKit Go.Shelf Go.Sort

set_option maxHeartbeats 4000000 in
set_option maxRecDepth 100000 in
theorem refLine_put (B p q : Nat) (S : SegD) (s : ByteArray) (n : Nat) (w : World) (hd : IsRS w B p q S) (hB : B ≤ w.heap.size) (hs : s.size ≤ 1048576) (h3 : 3 ≤ s.size) (h1 : s[1]'(by omega) = 32) (h0 : s[0]'(by omega) = 112) (hn : n ≤ 1048575) (hf : S.slots.length < S.D.lines.length) (hf2 : S.slots.length < 1048576) :
    Calls Tryz.prog 43 #[.pointer (some ⟨p, 0, none⟩), .string s, .int .i64 (n : Int)] w fun e w' => e = .returned (.bool (lineB S s.data.toList)) ∧ IsRS w' B p q (lineS S s.data.toList n) ∧ Touch (fun k => k = p) w w' := by
  have hL := bytes_two h3 h1
  have hP := parseE_two (s[0]'(by omega)) (s.data.toList.drop 2)
  rw [← hL, if_pos h0] at hP
  have hF := putE_find (s[0]'(by omega)) (s.data.toList.drop 2)
  rw [← hL] at hF
  have hI : ¬ (s.size : Int) < 3 := by omega
  have h1' : (((s[1]'(by omega)).toNat : Int) != 32) = false := by rw [h1]; rfl
  have hlt0 : 0 < s.size := by omega
  have hlt1 : 1 < s.size := by omega
  have g0 : ((((s[0]'(by omega)).toNat : Nat) : Int) == 112) = true := byte_is h0
  have uf := hide (fun w => refFind_calls s 32 2 w (by omega) (by omega))
  have Hd := hide hd
  have b3 := hd.ok.trim0
  have b4 := hd.ok.trim1
  rcases hF with ⟨hk, hput⟩ | ⟨k, hk, hk2, hkl, hput⟩
  · rw [hput] at hP
    obtain ⟨e1, e2⟩ := line_none (S := S) (n := n) hP
    rw [e1, e2]
    rw [hk] at uf
    clear hP e1 e2 hk hput hL hd h0
    go_enter Tryz.func43, Tryz.ntmps43
    go_wp2_with (first | (go_at_call 36; refine (uf.out _).mono ?_; rintro e w' ⟨rfl, hw'⟩; subst hw'))
    go_ret
    exact ⟨rfl, Hd.out, Touch.refl _ _⟩
  · rw [hput] at hP
    rw [hk] at uf
    rw [← Lib.size_eq] at hkl
    have u1 := hide (fun w => refNumberAny_calls (s.extract 2 k) w (by have := extract_le s 2 k; omega))
    have u2 := hide (fun w => refParseRec_own (s.extract (k + 1) s.size) w (by have := extract_le s (k + 1) s.size; omega))
    have d1 : (s.extract 2 k).data.toList = (s.data.toList.drop 2).take (k - 2) := extract_data s 2 k
    have d2 : (s.extract (k + 1) s.size).data.toList = (s.data.toList.drop 2).drop (k - 1) := by
      rw [extract_data, List.take_of_length_le (by rw [List.length_drop, ← Lib.size_eq]; omega), List.drop_drop]
      congr 1
      omega
    rw [d1] at u1
    rw [d2] at u2
    have hrg := numL_range ((s.data.toList.drop 2).take (k - 2))
    have hgd := parseR_good (s := (s.data.toList.drop 2).drop (k - 1))
    generalize numL ((s.data.toList.drop 2).take (k - 2)) = nv at *
    generalize parseR ((s.data.toList.drop 2).drop (k - 1)) = rv at *
    obtain ⟨x, ok⟩ := nv
    obtain ⟨r, ec⟩ := rv
    dsimp only at *
    have ua := hide (fun W (h : Below w.heap.size w W) => refAt_calls B p q S x W (Hd.out.keep h))
    obtain ⟨bt, hbt⟩ : ∃ bt, isAt (poss S) x = bt := ⟨_, rfl⟩
    have hkn : ¬ (k : Int) < 0 := by omega
    have hk2I : (2 : Int) ≤ (k : Int) := by omega
    have hkI : (k : Int) ≤ (s.size : Int) := by omega
    have hkI1 : (k : Int) + 1 ≤ (s.size : Int) := by omega
    have HP := hide hP
    have Hbt := hide hbt
    rw [hbt] at ua
    clear hP hput hk hL hd h0 d1 d2 hbt
    go_enter Tryz.func43, Tryz.ntmps43
    go_wp2_with (first | (go_at_call 36; refine (uf.out _).mono ?_; rintro e w' ⟨rfl, hw'⟩; subst hw') | (go_at_call 69; refine (u1.out _).mono ?_; rintro e w' ⟨rfl, hw'⟩; subst hw'))
    refine (u2.out _).mono ?_
    rintro e w3 ⟨v3, rfl, ⟨vd, rfl, hown⟩, hb3⟩
    obtain ⟨da, dc, rfl⟩ := ownsRow_slice hown
    have hb4 := hb3.alloc hb3.size (.cells #[.int .i64 r.site, .int .i64 r.seq, .slice da r.dep.length dc, .string r.key, .string r.val] 95)
    have x4 := World.alloc_heap_new w3 (.cells #[.int .i64 r.site, .int .i64 r.seq, .slice da r.dep.length dc, .string r.key, .string r.val] 95)
    obtain ⟨W4, hW4⟩ : ∃ W4, w3.alloc (.cells #[.int .i64 r.site, .int .i64 r.seq, .slice da r.dep.length dc, .string r.key, .string r.val] 95) = W4 := ⟨_, rfl⟩
    have hown4 : W4.ownsRow w'.heap.size 3 1 (.slice da r.dep.length dc) r.dep.length (r.dep.map (Value.int .i64)) := by rw [← hW4]; exact hown.alloc _
    rw [hW4] at hb4 x4
    have ua4 := hide (ua.out W4 hb4)
    have HW4 := hide hW4
    have Hown := hide hown4
    have X4 := hide x4
    have Hb4 := hide hb4
    clear ua u1 u2 uf hown hown4 hb3 hb4 hW4 x4
    go_wp2_with fail
    rw [HW4.out]
    refine ua4.out.mono ?_
    rintro e w5 ⟨rfl, nq, rfl⟩
    have hb5 : Below w'.heap.size w' (W4.drewN nq) := Hb4.out.trans ((drewsB W4 nq).mono Hb4.out.size)
    have I5 := Hd.out.keep hb5
    obtain ⟨k0, k1, k2, k3, k4, -, -, -, -, -⟩ := cells5 (show (W4.drewN nq).heap[w3.heap.size]? = _ from X4.out)
    obtain ⟨v6, l6, -, hp6, -⟩ := I5.val
    have ct := (cells4 hp6).2.2.2.1
    have Hb5 := hide hb5
    have HI5 := hide I5
    clear hb5 I5 hp6 ua4 HW4 X4 Hb4
    by_cases hok : ok = true
    · subst hok
      by_cases hec : ec = 0
      · subst hec
        obtain ⟨x0, x1⟩ := hrg rfl
        have hg := hgd rfl
        have hP : parseE s.data.toList = some ⟨112, x, r⟩ := by rw [HP.out, if_pos ⟨rfl, rfl⟩]
        cases bt with
        | true =>
          obtain ⟨e1, e2⟩ := line_no (S := S) (n := n) hP (by unfold mayS; dsimp only; rw [if_pos rfl, Hbt.out]; simp)
          have E1 := hide e1
          have E2 := hide e2
          clear e1 e2 hP
          go_wp2_with fail
          go_ret
          exact ⟨by rw [E1.out]; rfl, by rw [E2.out]; exact HI5.out, touch_new Hb5.out⟩
        | false =>
          by_cases htr : x < S.trim
          · obtain ⟨e1, e2⟩ := line_no (S := S) (n := n) hP (by unfold mayS; dsimp only; rw [if_pos rfl, decide_eq_false (by omega)]; rfl)
            have E1 := hide e1
            have E2 := hide e2
            clear e1 e2 hP
            go_wp2_with fail
            go_ret
            exact ⟨by rw [E1.out]; rfl, by rw [E2.out]; exact HI5.out, touch_new Hb5.out⟩
          · obtain ⟨e1, e2⟩ := line_yes (S := S) (n := n) hP (by unfold mayS; dsimp only; rw [if_pos rfl, decide_eq_true (by omega), Hbt.out]; rfl)
            have e3 : applyS S ⟨112, x, r⟩ n = { S with slots := insL S.slots (belowN (poss S) x) ⟨x, n, r⟩ } := by unfold applyS; dsimp only; rw [if_pos rfl]
            have E1 := hide e1
            have E2 := hide (e2.trans e3)
            have up := hide (refPut_calls B p q S x r (.slice da r.dep.length dc) n (W4.drewN nq) HI5.out (Nat.le_trans hB Hb5.out.size) (ownsRow_low Hown.out hB) (put_ok HI5.out.ok (by omega) Hbt.out x1 (by omega) hg hf) hf2)
            clear e1 e2 e3 hP
            go_wp2_with fail
            refine up.out.mono ?_
            rintro e w7 ⟨rfl, I7, T7⟩
            have HI7 := hide I7
            have HT7 := hide T7
            clear I7 T7 up
            go_wp2_with fail
            go_ret
            exact ⟨by rw [E1.out]; rfl, by rw [E2.out]; exact HI7.out, HT7.out.of_touch Hb5.out⟩
      · have hec' : (ec != 0) = true := by simp [hec]
        obtain ⟨e1, e2⟩ := line_none (S := S) (n := n) (HP.out.trans (if_neg (fun h => hec h.2)))
        have E1 := hide e1
        have E2 := hide e2
        clear e1 e2
        go_wp2_with fail
        go_ret
        exact ⟨by rw [E1.out]; rfl, by rw [E2.out]; exact HI5.out, touch_new Hb5.out⟩
    · rw [Bool.not_eq_true] at hok
      subst hok
      obtain ⟨e1, e2⟩ := line_none (S := S) (n := n) (HP.out.trans (if_neg (fun h => by cases h.1)))
      have E1 := hide e1
      have E2 := hide e2
      clear e1 e2
      go_wp2_with fail
      go_ret
      exact ⟨by rw [E1.out]; rfl, by rw [E2.out]; exact HI5.out, touch_new Hb5.out⟩

theorem refLine_calls (B p q : Nat) (S : SegD) (s : ByteArray) (n : Nat) (w : World) (hd : IsRS w B p q S) (hB : B ≤ w.heap.size) (hs : s.size ≤ 1048576) (hn : n ≤ 1048575) (hf : S.slots.length < S.D.lines.length) (hf2 : S.slots.length < 1048576) :
    Calls Tryz.prog 43 #[.pointer (some ⟨p, 0, none⟩), .string s, .int .i64 (n : Int)] w fun e w' => e = .returned (.bool (lineB S s.data.toList)) ∧ IsRS w' B p q (lineS S s.data.toList n) ∧ Touch (fun k => k = p) w w' := by
  by_cases h3 : 3 ≤ s.size
  · by_cases h1 : s[1]'(by omega) = 32
    · by_cases h0 : s[0]'(by omega) = 112
      · exact refLine_put B p q S s n w hd hB hs h3 h1 h0 hn hf hf2
      · exact refLine_num B p q S s n w hd hB hs h3 h1 h0
    · exact refLine_short B p q S s n w hd hs (.inr ⟨h3, h1⟩)
  · exact refLine_short B p q S s n w hd hs (.inl (by omega))

end Go.Proofs.YtncmocmmkbmmjaaGreatDoor
