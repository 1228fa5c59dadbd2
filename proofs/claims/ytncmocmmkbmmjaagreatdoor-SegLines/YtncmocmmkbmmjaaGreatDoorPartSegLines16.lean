/- Own work: the parts RS3 of the proof, laid together. -/
import Derived.Test.YtncmocmmkbmmjaaGreatDoorPartSegLines15
/- The reference's segments: put. Own work; no statement. -/
set_option linter.unusedSimpArgs false
set_option linter.unusedVariables false
namespace Go.Proofs.YtncmocmmkbmmjaaGreatDoor
open Go.RowKit Go.Shelf Go.Sort

section
variable {P : Program} {ops : Array Oper} {Q : Exit → Act → World → Prop} {S : World → Prop} {m g : Nat}
/-- One of two may come up. -/
theorem HeadT.two (i j : Nat) {f : Nat} {d : Array Bool} {a : Act} {w : World} (hr : Region.ready .any ops d = [i, j]) (hi : wpOp P ops Q i (fun a' w' => S w' ∧ HeadT P ops Q S m g f (d.setIfInBounds i true) a' w') a w)
    (hj : wpOp P ops Q j (fun a' w' => S w' ∧ HeadT P ops Q S m g f (d.setIfInBounds j true) a' w') a w) : HeadT P ops Q S m g (f + 1) d a w :=
  ⟨by rw [hr]; simp, fun k hk => by
    rw [hr] at hk
    rcases List.mem_cons.1 hk with rfl | hk
    · exact hi
    · obtain rfl : k = j := (by simpa using hk)
      exact hj⟩

/-- append to a row of one's own, as the one that comes up. -/
theorem wpOp_append {i : Nat} {o : Oper} {K : Act → World → Prop} {a : Act} {w : World} (hi : ops[i]? = some o) (hg : o.guard = none) (s x : Operand) (t : TypeId) (hop : o.op = Op.call { callee := Callee.builtin Builtin.append, args := #[s, x], argTypes := #[t, t] })
    (base : Nat) (e : TypeId) (i0 : TypeInfo) (z : Value) (size bytes : Nat) (h1 : P.underlying t = some (.slice e)) (h2 : P.info? e = some i0) (h3 : i0.zero = some z) (h4 : i0.size = size) (h5 : i0.bytes = bytes) (h6 : z.cells.size = size) (h7 : 0 < size)
    (v : Value) (n : Nat) (xs : List Value) (hs : a.eval s = v) (hown : w.ownsRow base e size v n xs) (vx : Value) (k : Nat) (news : List Value) (hx : a.eval x = vx) (hsrc : Src w vx k news) (hn : news.length = k * size) (h1c : ∀ u ∈ news, u.oneCell' = true)
    (b1 : n + k ≤ maxLen) (b2 : (n + k) * bytes ≤ 140737488355328) (hb : base ≤ w.heap.size)
    (hK : ∀ v' w', w'.ownsRow base e size v' (n + k) (xs ++ news) → w.grownBy w' v.ownBlock → K (a.put o.dst v') w') : wpOp P ops Q i K a w := by
  unfold wpOp
  simp only [hi]
  rw [if_pos (by simp [Region.wanted, hg])]
  refine .inl ?_
  unfold Oper.wp
  rcases hsrc with ⟨rfl, rfl, rfl⟩ | ⟨ad, c, rfl, hc⟩
  · have hrun := run_append_owned_none (P := P) (w := w) base t o.type e i0 size h1 h2 v n xs hown
    simp [execOp, hop, resolve, invoke, builtin, hs, hx, hrun, Result.andThen]
    exact hK v w (by rw [List.append_nil]; exact hown) (World.grownBy.refl _ _)
  · obtain ⟨v', w', hrun, r1, r2, _⟩ := run_append_own (P := P) w base t o.type e i0 z size bytes h1 h2 h3 h4 h5 h6 h7 v n xs hown ad k c news hn hc h1c b1 b2 hb
    simp [execOp, hop, resolve, invoke, builtin, hs, hx, hrun, Result.andThen]
    exact hK v' w' r1 r2
end

/-- A slot's record, its numbers in a row of their own. -/
def OwnSl (w : World) (B : Nat) (s : RSl) : Prop := w.ownsRow B 3 1 s.vd s.x.r.dep.length (s.x.r.dep.map (Value.int .i64))

set_option maxHeartbeats 1500000 in
set_option maxRecDepth 100000 in
theorem refPut_lt (B p q : Nat) (S : SegD) (pos : Int) (r : RecD) (da : Option Addr) (dc : Nat) (n k : Nat) (bt : Bool) (w : World) (hB : B ≤ w.heap.size) (hvd : w.ownsRow B 3 1 (.slice da r.dep.length dc) r.dep.length (r.dep.map (Value.int .i64))) (hok : SegD.ok { S with slots := insL S.slots k ⟨pos, n, r⟩ }) (hf : S.slots.length < 1048576) (hk : k ≤ S.slots.length) (hd : IsRS w B p q S)
    (u1 : Hid (∀ W, Below w.heap.size w W → Calls Tryz.prog 71 #[.pointer (some ⟨p, 0, none⟩), .int .i64 pos] W fun e w' => e = .returned (.tuple #[.int .i64 (k : Int), .bool bt]) ∧ ∃ n, w' = W.drewN n))
    (g cap : Nat) (l : List RSl) (hl : l.map (·.x) = S.slots) (hp : w.heap[p]? = some (.cells #[ptrV q, (.slice (some ⟨g, 0, none⟩) S.slots.length cap), .int .i64 S.sealed, .int .i64 S.trim] 91 (0, 0))) (hr : IsRSl w B (.slice (some ⟨g, 0, none⟩) S.slots.length cap) l) (hkc : k < cap) :
    Calls Tryz.prog 72 #[.pointer (some ⟨p, 0, none⟩), .int .i64 pos, .agg #[.int .i64 r.site, .int .i64 r.seq, .slice da r.dep.length dc, .string r.key, .string r.val], .int .i64 (n : Int)] w fun e w' => e = .returned (.tuple #[]) ∧ IsRS w' B p q { S with slots := insL S.slots k ⟨pos, n, r⟩ } ∧ Touch (fun k => k = p) w w' := by
  obtain ⟨i0, hi0, hz0, hz1, hz2⟩ := info_parts Tryz.info97
  have HB := box_below w (.cells #[.int .i64 r.site, .int .i64 r.seq, .slice da r.dep.length dc, .string r.key, .string r.val] 95)
  obtain ⟨W1, hW1⟩ : ∃ W1, w.alloc (.cells #[.int .i64 r.site, .int .i64 r.seq, .slice da r.dep.length dc, .string r.key, .string r.val] 95) = W1 := ⟨_, rfl⟩
  have x0 : W1.heap[w.heap.size]? = some (.cells #[.int .i64 r.site, .int .i64 r.seq, .slice da r.dep.length dc, .string r.key, .string r.val] 95 (0, 0)) := by rw [← hW1]; exact World.alloc_heap_new w _
  rw [hW1] at HB
  have u2 := hide (u1.out W1 HB)
  have Hd := hide (hd.keep HB)
  have hok2 := hide hok
  have HW := hide hW1
  have X0 := hide x0
  have Hvd := hide (own_below hvd HB)
  clear hd hW1 x0 hvd hok u1
  go_enter Tryz.func72, Tryz.ntmps72
  go_wp2_with fail
  rw [HW.out]
  refine u2.out.mono ?_
  rintro e w' ⟨rfl, nq, rfl⟩
  obtain ⟨W, hW⟩ : ∃ W, W1.drewN nq = W := ⟨_, rfl⟩
  have hdW : IsRS W B p q S := by rw [← hW]; exact Hd.out.drews nq
  have hBW : B ≤ W.heap.size := by rw [← hW]; have := HB.size; exact Nat.le_trans hB this
  have TW := hide (show Below w.heap.size w W by rw [← hW]; exact HB.trans ((drewsB W1 nq).mono HB.size))
  have xW : W.heap[w.heap.size]? = some (.cells #[.int .i64 r.site, .int .i64 r.seq, .slice da r.dep.length dc, .string r.key, .string r.val] 95 (0, 0)) := by rw [← hW]; exact X0.out
  have HvW := hide (show W.ownsRow B 3 1 (.slice da r.dep.length dc) r.dep.length (r.dep.map (Value.int .i64)) by rw [← hW]; exact Hvd.out)
  have hpW : W.heap[p]? = some (.cells #[ptrV q, (.slice (some ⟨g, 0, none⟩) S.slots.length cap), .int .i64 S.sealed, .int .i64 S.trim] 91 (0, 0)) := by rw [← hW]; exact keepB hp (HB.trans ((drewsB W1 nq).mono HB.size))
  have hrW : IsRSl W B (.slice (some ⟨g, 0, none⟩) S.slots.length cap) l := by rw [← hW]; exact hr.below (HB.trans ((drewsB W1 nq).mono HB.size))
  rw [hW]
  clear hW u2 Hd X0 Hvd HB HW hp hr
  have hll : l.length = S.slots.length := by rw [← hl]; simp
  obtain ⟨c0, c1, c2, c3, f0, f1, f2, f3⟩ := cells4 hpW
  obtain ⟨k0, k1, k2, k3, k4, -, -, -, -, -⟩ := cells5 xW
  have hplt := ltAt hpW
  have hxlt := ltAt xW
  have Hr := hide hrW
  have HWd := hide hdW
  have Hl := hide hl
  clear hrW hpW hdW hl xW
  have hkI : (k : Int) ≤ (S.slots.length : Int) := by omega
  have hkcap : k ≤ cap := by omega
  have hrl : IsRSl W B (.slice (some ⟨g, 0, none⟩) l.length cap) l := by rw [hll]; exact Hr.out
  have hsrc : ∀ W', Below W.heap.size W W' → Src W' (.slice (some ⟨g, 0, none⟩) k cap) k ((l.take k).flatMap RSl.cells) := fun W' h => src_take hrl h
  have hsrc2 : ∀ W', Below W.heap.size W W' → Src W' (.slice (some ⟨g, k * 7, none⟩) (S.slots.length - k) (cap - k)) (S.slots.length - k) ((l.drop k).flatMap RSl.cells) := fun W' h => src_drop hrl h (by omega)
  clear hrl
  have hslot : Hid (∀ u ∈ [Value.int .i64 pos, .int .i64 r.site, .int .i64 r.seq, .slice da r.dep.length dc, .string r.key, .string r.val, .int .i64 (n : Int)], u.oneCell' = true) := rsl_one (s := ⟨⟨pos, n, r⟩, .slice da r.dep.length dc⟩) rfl
  have hone : Hid (∀ u ∈ (l.take k).flatMap RSl.cells, u.oneCell' = true) := rsls_one Hr.out (fun s hs => List.mem_of_mem_take hs)
  have hone2 : Hid (∀ u ∈ (l.drop k).flatMap RSl.cells, u.oneCell' = true) := rsls_one Hr.out (fun s hs => List.mem_of_mem_drop hs)
  have hMc : ((l.take k).flatMap RSl.cells).length = k * 7 := by rw [flat_len]; simp; omega
  have hMc2 : ((l.drop k).flatMap RSl.cells).length = (S.slots.length - k) * 7 := by rw [flat_len, List.length_drop, hll]
  have hS : ∀ W', Below W.heap.size W W' → W'.cell? ⟨p, 1, none⟩ = some (.slice (some ⟨g, 0, none⟩) S.slots.length cap) ∧ W'.cell? ⟨w.heap.size, 0, none⟩ = some (.int .i64 r.site) ∧ W'.cell? ⟨w.heap.size, 1, none⟩ = some (.int .i64 r.seq) ∧ W'.cell? ⟨w.heap.size, 2, none⟩ = some (.slice da r.dep.length dc) ∧ W'.cell? ⟨w.heap.size, 3, none⟩ = some (.string r.key) ∧ W'.cell? ⟨w.heap.size, 4, none⟩ = some (.string r.val) := fun W' h =>
    ⟨(h.cell (p := ⟨p, 1, none⟩) hplt).trans c1, (h.cell (p := ⟨w.heap.size, 0, none⟩) hxlt).trans k0, (h.cell (p := ⟨w.heap.size, 1, none⟩) hxlt).trans k1, (h.cell (p := ⟨w.heap.size, 2, none⟩) hxlt).trans k2, (h.cell (p := ⟨w.heap.size, 3, none⟩) hxlt).trans k3, (h.cell (p := ⟨w.heap.size, 4, none⟩) hxlt).trans k4⟩
  have hbd : Below W.heap.size W W.drew := ⟨rfl, rfl, rfl, Nat.le_refl _, fun _ _ => rfl⟩
  go_wp2_with fail
  refine region_headT 14 (fun W' => W'.cell? ⟨p, 1, none⟩ = some (.slice (some ⟨g, 0, none⟩) S.slots.length cap) ∧ W'.cell? ⟨w.heap.size, 0, none⟩ = some (.int .i64 r.site) ∧ W'.cell? ⟨w.heap.size, 1, none⟩ = some (.int .i64 r.seq) ∧ W'.cell? ⟨w.heap.size, 2, none⟩ = some (.slice da r.dep.length dc) ∧ W'.cell? ⟨w.heap.size, 3, none⟩ = some (.string r.key) ∧ W'.cell? ⟨w.heap.size, 4, none⟩ = some (.string r.val)) (by kernel_rfl) (by decide) ?_
  refine HeadT.take 1 (.pointer (some ⟨p, 0, none⟩)) rfl (by kernel_rfl) (.inl ⟨rfl, fun w2 ⟨s0, s1, s2, s3, s4, s5⟩ => by go_simp⟩) (hS _ hbd) ?_
  refine HeadT.take 2 (.pointer (some ⟨p, 0, none⟩)) rfl (by kernel_rfl) (.inl ⟨rfl, fun w2 ⟨s0, s1, s2, s3, s4, s5⟩ => by go_simp⟩) (hS _ hbd) ?_
  refine HeadT.take 3 (.pointer (some ⟨p, 1, none⟩)) rfl (by kernel_rfl) (.inl ⟨rfl, fun w2 ⟨s0, s1, s2, s3, s4, s5⟩ => by go_simp⟩) (hS _ hbd) ?_
  refine HeadT.take 4 (.slice (some ⟨g, 0, none⟩) S.slots.length cap) rfl (by kernel_rfl) (.inl ⟨rfl, fun w2 ⟨s0, s1, s2, s3, s4, s5⟩ => by go_simp⟩) (hS _ hbd) ?_
  refine HeadT.take 5 (.int .i64 (k : Int)) rfl (by kernel_rfl) (.inl ⟨rfl, fun w2 ⟨s0, s1, s2, s3, s4, s5⟩ => by go_simp⟩) (hS _ hbd) ?_
  refine HeadT.take 6 (.slice (some ⟨g, 0, none⟩) k cap) rfl (by kernel_rfl) (.inl ⟨rfl, fun w2 ⟨s0, s1, s2, s3, s4, s5⟩ => by go_simp⟩) (hS _ hbd) ?_
  refine HeadT.take 8 (.int .i64 pos) rfl (by kernel_rfl) (.inl ⟨rfl, fun w2 ⟨s0, s1, s2, s3, s4, s5⟩ => by go_simp⟩) (hS _ hbd) ?_
  refine HeadT.take 9 (.agg #[.int .i64 r.site, .int .i64 r.seq, .slice da r.dep.length dc, .string r.key, .string r.val]) rfl (by kernel_rfl) (.inl ⟨rfl, fun w2 ⟨s0, s1, s2, s3, s4, s5⟩ => by go_simp⟩) (hS _ hbd) ?_
  refine HeadT.take 10 (.int .i64 (n : Int)) rfl (by kernel_rfl) (.inl ⟨rfl, fun w2 ⟨s0, s1, s2, s3, s4, s5⟩ => by go_simp⟩) (hS _ hbd) ?_
  refine HeadT.take 11 (.agg #[.int .i64 pos, .int .i64 r.site, .int .i64 r.seq, .slice da r.dep.length dc, .string r.key, .string r.val, .int .i64 (n : Int)]) rfl (by kernel_rfl) (.inl ⟨rfl, fun w2 ⟨s0, s1, s2, s3, s4, s5⟩ => by go_simp⟩) (hS _ hbd) ?_
  refine HeadT.two 0 12 (by kernel_rfl) ?_ ?_
  · skip
    obtain ⟨WA, hWA⟩ : ∃ WA, W.drew.alloc (.cells #[] 97) = WA := ⟨_, rfl⟩
    have hbWA : Below W.heap.size W WA := by rw [← hWA]; exact hbd.alloc hbd.size _
    have hrA : WA.ownsRow W.heap.size 97 7 (.slice (some ⟨W.heap.size, 0, none⟩) 0 0) 0 [] := by rw [← hWA]; exact World.ownsRow_lit W.drew #[] 0 hbd.size (by unfold maxLen; omega) rfl
    refine wpOp_val rfl rfl (v := .slice (some ⟨W.heap.size, 0, none⟩) 0 0) (w' := WA) (by rw [← hWA]; go_simp) ⟨hS _ hbWA, ?_⟩
    refine HeadT.two 7 12 (by kernel_rfl) ?_ ?_
    · skip
      refine wpOp_append rfl rfl _ _ 89 rfl W.heap.size 97 i0 _ 7 88 Tryz.underlying89 hi0 hz0 hz1 hz2 rfl (by decide) (.slice (some ⟨W.heap.size, 0, none⟩) 0 0) 0 [] (by go_simp) hrA (.slice (some ⟨g, 0, none⟩) k cap) k _ (by go_simp) (hsrc WA hbWA) hMc hone.out (by unfold maxLen; omega) (by omega) hbWA.size ?_
      intro v1 wB hownB hgrowB
      have hbB : Below W.heap.size W wB := hbWA.grown hgrowB hbWA.size (fun j hj => (hrA.lt j hj).1)
      refine ⟨hS _ hbB, ?_⟩
      refine HeadT.only 12 (by kernel_rfl) ?_
      obtain ⟨W3, hW3⟩ : ∃ W3, wB.alloc (.cells #[.int .i64 pos, .int .i64 r.site, .int .i64 r.seq, .slice da r.dep.length dc, .string r.key, .string r.val, .int .i64 (n : Int)] 97) = W3 := ⟨_, rfl⟩
      have hbW3 : Below W.heap.size W W3 := by rw [← hW3]; exact hbB.alloc hbB.size _
      refine wpOp_val rfl rfl (v := .slice (some ⟨wB.heap.size, 0, none⟩) 1 1) (w' := W3) (by rw [← hW3]; go_simp) ⟨hS _ hbW3, ?_⟩
      have hlit : W3.heap[wB.heap.size]? = some (.cells #[.int .i64 pos, .int .i64 r.site, .int .i64 r.seq, .slice da r.dep.length dc, .string r.key, .string r.val, .int .i64 (n : Int)] 97 (0, 0)) := by rw [← hW3]; exact World.alloc_heap_new wB _
      have hown : W3.ownsRow W.heap.size 97 7 v1 (0 + k) ([] ++ (l.take k).flatMap RSl.cells) := by rw [← hW3]; exact hownB.alloc _
      have hb3 := hbW3
      obtain ⟨bs, hbs⟩ : ∃ bs, wB.heap.size = bs := ⟨_, rfl⟩
      rw [hbs] at hlit ⊢
      clear hbs hW3 hbW3 hownB hgrowB hbB hWA hbWA hrA
      refine HeadT.only 13 (by kernel_rfl) ?_
      refine wpOp_append rfl rfl _ _ 89 rfl W.heap.size 97 i0 _ 7 88 Tryz.underlying89 hi0 hz0 hz1 hz2 rfl (by decide) v1 (0 + k) _ (by go_simp) hown (.slice (some ⟨bs, 0, none⟩) 1 1) 1 [.int .i64 pos, .int .i64 r.site, .int .i64 r.seq, .slice da r.dep.length dc, .string r.key, .string r.val, .int .i64 (n : Int)] (by go_simp) (.inr ⟨⟨bs, 0, none⟩, 1, rfl, fun j u hu => by rw [Addr.add_lit, Nat.zero_add, cellsAt hlit j]; simpa using hu⟩) rfl hslot.out (by unfold maxLen; omega) (by omega) hb3.size ?_
      intro v2 w4 hown2 hgrow2
      have hb4 : Below W.heap.size W w4 := hb3.grown hgrow2 hb3.size (fun j hj => (hown.lt j hj).1)
      refine ⟨hS _ hb4, ?_⟩
      refine HeadT.tail rfl (by kernel_rfl) ?_
      obtain ⟨d1, -, -, -, -, -⟩ := hS _ hb4
      have hsrc4 := hsrc2 w4 hb4
      simp only [Nat.zero_add, List.nil_append] at hown2
      obtain ⟨a2, cc2, rfl⟩ := ownsRow_slice hown2
      clear hown hgrow2 hlit hb3 hS hsrc hsrc2
      simp only [List.drop_succ_cons, List.drop_zero]
      go_wp2_with fail
      simp only [noPanic]
      go_wp2_with (at_builtin; refine wpList_append_src rfl _ _ 89 rfl W.heap.size 97 i0 _ 7 88 Tryz.underlying89 hi0 hz0 hz1 hz2 rfl (by decide) _ _ _ rfl hown2 _ (S.slots.length - k) _ rfl hsrc4 hMc2 hone2.out (by unfold maxLen; omega) (by omega) hb4.size ?_)
      intro v3 w5 hown3 hgrow3
      have hb5 : Below W.heap.size W w5 := hb4.grown hgrow3 hb4.size (fun j hj => (hown2.lt j hj).1)
      have hrs : IsRSl w5 B v3 (insL l k ⟨⟨pos, n, r⟩, .slice da r.dep.length dc⟩) := by
        refine ⟨ownsRow_low ?_ hBW, fun s hs => ?_⟩
        · have e1 : (insL l k ⟨⟨pos, n, r⟩, .slice da r.dep.length dc⟩).length = k + 1 + (S.slots.length - k) := by rw [insL_length _ _ _ (by omega)]; omega
          have e2 : (insL l k ⟨⟨pos, n, r⟩, .slice da r.dep.length dc⟩).flatMap RSl.cells = ((l.take k).flatMap RSl.cells ++ [.int .i64 pos, .int .i64 r.site, .int .i64 r.seq, .slice da r.dep.length dc, .string r.key, .string r.val, .int .i64 (n : Int)]) ++ (l.drop k).flatMap RSl.cells := by
            unfold insL
            simp [RSl.cells, List.flatMap_append, List.flatMap_cons]
          rw [e1, e2]
          simpa using hown3
        · rcases (ins_mem _ _ _ _).1 hs with h | rfl
          · exact own_below (Hr.out.deps s h) hb5
          · exact own_below HvW.out hb5
      have e5 := (hb5.cell (p := ⟨p, 1, none⟩) hplt).trans c1
      have l5 : w5.frozen? ⟨p, 1, none⟩ = false := (hb5.frozen (p := ⟨p, 1, none⟩) hplt).trans f1
      obtain ⟨I, T⟩ := rs_put (sl := insL S.slots k ⟨pos, n, r⟩) HWd.out hb5 hrs (by unfold insL; simp [← Hl.out]) hok2.out (by rw [insL_length _ _ _ hk]; omega)
      obtain ⟨a3, cc3, rfl⟩ := ownsRow_slice hown3
      have F := hide (show _ ∧ _ from ⟨I, T.of_touch TW.out⟩)
      clear I T hown3 hgrow3 hrs hb5 hown2 hb4 hsrc4 d1
      go_wp2_with fail
      go_end0
      exact ⟨rfl, F.out⟩
    · skip
      obtain ⟨WB, hWB⟩ : ∃ W3, WA.alloc (.cells #[.int .i64 pos, .int .i64 r.site, .int .i64 r.seq, .slice da r.dep.length dc, .string r.key, .string r.val, .int .i64 (n : Int)] 97) = W3 := ⟨_, rfl⟩
      have hbWB : Below W.heap.size W WB := by rw [← hWB]; exact hbWA.alloc hbWA.size _
      refine wpOp_val rfl rfl (v := .slice (some ⟨WA.heap.size, 0, none⟩) 1 1) (w' := WB) (by rw [← hWB]; go_simp) ⟨hS _ hbWB, ?_⟩
      have hlit : WB.heap[WA.heap.size]? = some (.cells #[.int .i64 pos, .int .i64 r.site, .int .i64 r.seq, .slice da r.dep.length dc, .string r.key, .string r.val, .int .i64 (n : Int)] 97 (0, 0)) := by rw [← hWB]; exact World.alloc_heap_new WA _
      refine HeadT.only 7 (by kernel_rfl) ?_
      have hrB : WB.ownsRow W.heap.size 97 7 (.slice (some ⟨W.heap.size, 0, none⟩) 0 0) 0 [] := by rw [← hWB]; exact hrA.alloc _
      refine wpOp_append rfl rfl _ _ 89 rfl W.heap.size 97 i0 _ 7 88 Tryz.underlying89 hi0 hz0 hz1 hz2 rfl (by decide) (.slice (some ⟨W.heap.size, 0, none⟩) 0 0) 0 [] (by go_simp) hrB (.slice (some ⟨g, 0, none⟩) k cap) k _ (by go_simp) (hsrc WB hbWB) hMc hone.out (by unfold maxLen; omega) (by omega) hbWB.size ?_
      intro v1 W3 hown hgrowB
      have hb3 : Below W.heap.size W W3 := hbWB.grown hgrowB hbWB.size (fun j hj => (hrB.lt j hj).1)
      refine ⟨hS _ hb3, ?_⟩
      replace hlit : W3.heap[WA.heap.size]? = _ := (hgrowB.block WA.heap.size (ltAt hlit) (fun e => by have h9 : some W.heap.size = some WA.heap.size := e.symm; simp only [Option.some.injEq] at h9; have h8 : WA.heap.size = W.heap.size + 1 := (by rw [← hWA]; simp); omega)).trans hlit
      obtain ⟨bs, hbs⟩ : ∃ bs, WA.heap.size = bs := ⟨_, rfl⟩
      rw [hbs] at hlit ⊢
      clear hbs hWB hbWB hgrowB hWA hbWA hrA hrB
      refine HeadT.only 13 (by kernel_rfl) ?_
      refine wpOp_append rfl rfl _ _ 89 rfl W.heap.size 97 i0 _ 7 88 Tryz.underlying89 hi0 hz0 hz1 hz2 rfl (by decide) v1 (0 + k) _ (by go_simp) hown (.slice (some ⟨bs, 0, none⟩) 1 1) 1 [.int .i64 pos, .int .i64 r.site, .int .i64 r.seq, .slice da r.dep.length dc, .string r.key, .string r.val, .int .i64 (n : Int)] (by go_simp) (.inr ⟨⟨bs, 0, none⟩, 1, rfl, fun j u hu => by rw [Addr.add_lit, Nat.zero_add, cellsAt hlit j]; simpa using hu⟩) rfl hslot.out (by unfold maxLen; omega) (by omega) hb3.size ?_
      intro v2 w4 hown2 hgrow2
      have hb4 : Below W.heap.size W w4 := hb3.grown hgrow2 hb3.size (fun j hj => (hown.lt j hj).1)
      refine ⟨hS _ hb4, ?_⟩
      refine HeadT.tail rfl (by kernel_rfl) ?_
      obtain ⟨d1, -, -, -, -, -⟩ := hS _ hb4
      have hsrc4 := hsrc2 w4 hb4
      simp only [Nat.zero_add, List.nil_append] at hown2
      obtain ⟨a2, cc2, rfl⟩ := ownsRow_slice hown2
      clear hown hgrow2 hlit hb3 hS hsrc hsrc2
      simp only [List.drop_succ_cons, List.drop_zero]
      go_wp2_with fail
      simp only [noPanic]
      go_wp2_with (at_builtin; refine wpList_append_src rfl _ _ 89 rfl W.heap.size 97 i0 _ 7 88 Tryz.underlying89 hi0 hz0 hz1 hz2 rfl (by decide) _ _ _ rfl hown2 _ (S.slots.length - k) _ rfl hsrc4 hMc2 hone2.out (by unfold maxLen; omega) (by omega) hb4.size ?_)
      intro v3 w5 hown3 hgrow3
      have hb5 : Below W.heap.size W w5 := hb4.grown hgrow3 hb4.size (fun j hj => (hown2.lt j hj).1)
      have hrs : IsRSl w5 B v3 (insL l k ⟨⟨pos, n, r⟩, .slice da r.dep.length dc⟩) := by
        refine ⟨ownsRow_low ?_ hBW, fun s hs => ?_⟩
        · have e1 : (insL l k ⟨⟨pos, n, r⟩, .slice da r.dep.length dc⟩).length = k + 1 + (S.slots.length - k) := by rw [insL_length _ _ _ (by omega)]; omega
          have e2 : (insL l k ⟨⟨pos, n, r⟩, .slice da r.dep.length dc⟩).flatMap RSl.cells = ((l.take k).flatMap RSl.cells ++ [.int .i64 pos, .int .i64 r.site, .int .i64 r.seq, .slice da r.dep.length dc, .string r.key, .string r.val, .int .i64 (n : Int)]) ++ (l.drop k).flatMap RSl.cells := by
            unfold insL
            simp [RSl.cells, List.flatMap_append, List.flatMap_cons]
          rw [e1, e2]
          simpa using hown3
        · rcases (ins_mem _ _ _ _).1 hs with h | rfl
          · exact own_below (Hr.out.deps s h) hb5
          · exact own_below HvW.out hb5
      have e5 := (hb5.cell (p := ⟨p, 1, none⟩) hplt).trans c1
      have l5 : w5.frozen? ⟨p, 1, none⟩ = false := (hb5.frozen (p := ⟨p, 1, none⟩) hplt).trans f1
      obtain ⟨I, T⟩ := rs_put (sl := insL S.slots k ⟨pos, n, r⟩) HWd.out hb5 hrs (by unfold insL; simp [← Hl.out]) hok2.out (by rw [insL_length _ _ _ hk]; omega)
      obtain ⟨a3, cc3, rfl⟩ := ownsRow_slice hown3
      have F := hide (show _ ∧ _ from ⟨I, T.of_touch TW.out⟩)
      clear I T hown3 hgrow3 hrs hb5 hown2 hb4 hsrc4 d1
      go_wp2_with fail
      go_end0
      exact ⟨rfl, F.out⟩
  · skip
    obtain ⟨WL, hWL⟩ : ∃ W3, W.drew.alloc (.cells #[.int .i64 pos, .int .i64 r.site, .int .i64 r.seq, .slice da r.dep.length dc, .string r.key, .string r.val, .int .i64 (n : Int)] 97) = W3 := ⟨_, rfl⟩
    have hbWL : Below W.heap.size W WL := by rw [← hWL]; exact hbd.alloc hbd.size _
    refine wpOp_val rfl rfl (v := .slice (some ⟨W.heap.size, 0, none⟩) 1 1) (w' := WL) (by rw [← hWL]; go_simp) ⟨hS _ hbWL, ?_⟩
    have hlit : WL.heap[W.heap.size]? = some (.cells #[.int .i64 pos, .int .i64 r.site, .int .i64 r.seq, .slice da r.dep.length dc, .string r.key, .string r.val, .int .i64 (n : Int)] 97 (0, 0)) := by rw [← hWL]; exact World.alloc_heap_new W.drew _
    refine HeadT.only 0 (by kernel_rfl) ?_
    obtain ⟨WA, hWA⟩ : ∃ WA, WL.alloc (.cells #[] 97) = WA := ⟨_, rfl⟩
    have hbWA : Below W.heap.size W WA := by rw [← hWA]; exact hbWL.alloc hbWL.size _
    have hrA : WA.ownsRow W.heap.size 97 7 (.slice (some ⟨WL.heap.size, 0, none⟩) 0 0) 0 [] := by rw [← hWA]; exact World.ownsRow_lit WL #[] 0 hbWL.size (by unfold maxLen; omega) rfl
    refine wpOp_val rfl rfl (v := .slice (some ⟨WL.heap.size, 0, none⟩) 0 0) (w' := WA) (by rw [← hWA]; go_simp) ⟨hS _ hbWA, ?_⟩
    refine HeadT.only 7 (by kernel_rfl) ?_
    refine wpOp_append rfl rfl _ _ 89 rfl W.heap.size 97 i0 _ 7 88 Tryz.underlying89 hi0 hz0 hz1 hz2 rfl (by decide) (.slice (some ⟨WL.heap.size, 0, none⟩) 0 0) 0 [] (by go_simp) hrA (.slice (some ⟨g, 0, none⟩) k cap) k _ (by go_simp) (hsrc WA hbWA) hMc hone.out (by unfold maxLen; omega) (by omega) hbWA.size ?_
    intro v1 W3 hown hgrowB
    have hb3 : Below W.heap.size W W3 := hbWA.grown hgrowB hbWA.size (fun j hj => (hrA.lt j hj).1)
    refine ⟨hS _ hb3, ?_⟩
    have hszL : WL.heap.size = W.heap.size + 1 := by rw [← hWL]; simp
    replace hlit : W3.heap[W.heap.size]? = _ := (hgrowB.block W.heap.size (by have := hbWA.size; have : WA.heap.size = WL.heap.size + 1 := (by rw [← hWA]; simp); omega) (fun e => by have h9 : some WL.heap.size = some W.heap.size := e.symm; simp only [Option.some.injEq] at h9; omega)).trans ((show WA.heap[W.heap.size]? = WL.heap[W.heap.size]? by rw [← hWA]; exact Below.heap_alloc _ _ _ (by omega)).trans hlit)
    obtain ⟨b0, hb0⟩ : ∃ b0, WL.heap.size = b0 := ⟨_, rfl⟩
    rw [hb0]
    obtain ⟨bs, hbs⟩ : ∃ bs, W.heap.size = bs := ⟨_, rfl⟩
    rw [hbs] at hlit ⊢
    clear hbs hb0 hWL hbWL hgrowB hWA hbWA hrA hszL
    refine HeadT.only 13 (by kernel_rfl) ?_
    refine wpOp_append rfl rfl _ _ 89 rfl W.heap.size 97 i0 _ 7 88 Tryz.underlying89 hi0 hz0 hz1 hz2 rfl (by decide) v1 (0 + k) _ (by go_simp) hown (.slice (some ⟨bs, 0, none⟩) 1 1) 1 [.int .i64 pos, .int .i64 r.site, .int .i64 r.seq, .slice da r.dep.length dc, .string r.key, .string r.val, .int .i64 (n : Int)] (by go_simp) (.inr ⟨⟨bs, 0, none⟩, 1, rfl, fun j u hu => by rw [Addr.add_lit, Nat.zero_add, cellsAt hlit j]; simpa using hu⟩) rfl hslot.out (by unfold maxLen; omega) (by omega) hb3.size ?_
    intro v2 w4 hown2 hgrow2
    have hb4 : Below W.heap.size W w4 := hb3.grown hgrow2 hb3.size (fun j hj => (hown.lt j hj).1)
    refine ⟨hS _ hb4, ?_⟩
    refine HeadT.tail rfl (by kernel_rfl) ?_
    obtain ⟨d1, -, -, -, -, -⟩ := hS _ hb4
    have hsrc4 := hsrc2 w4 hb4
    simp only [Nat.zero_add, List.nil_append] at hown2
    obtain ⟨a2, cc2, rfl⟩ := ownsRow_slice hown2
    clear hown hgrow2 hlit hb3 hS hsrc hsrc2
    simp only [List.drop_succ_cons, List.drop_zero]
    go_wp2_with fail
    simp only [noPanic]
    go_wp2_with (at_builtin; refine wpList_append_src rfl _ _ 89 rfl W.heap.size 97 i0 _ 7 88 Tryz.underlying89 hi0 hz0 hz1 hz2 rfl (by decide) _ _ _ rfl hown2 _ (S.slots.length - k) _ rfl hsrc4 hMc2 hone2.out (by unfold maxLen; omega) (by omega) hb4.size ?_)
    intro v3 w5 hown3 hgrow3
    have hb5 : Below W.heap.size W w5 := hb4.grown hgrow3 hb4.size (fun j hj => (hown2.lt j hj).1)
    have hrs : IsRSl w5 B v3 (insL l k ⟨⟨pos, n, r⟩, .slice da r.dep.length dc⟩) := by
      refine ⟨ownsRow_low ?_ hBW, fun s hs => ?_⟩
      · have e1 : (insL l k ⟨⟨pos, n, r⟩, .slice da r.dep.length dc⟩).length = k + 1 + (S.slots.length - k) := by rw [insL_length _ _ _ (by omega)]; omega
        have e2 : (insL l k ⟨⟨pos, n, r⟩, .slice da r.dep.length dc⟩).flatMap RSl.cells = ((l.take k).flatMap RSl.cells ++ [.int .i64 pos, .int .i64 r.site, .int .i64 r.seq, .slice da r.dep.length dc, .string r.key, .string r.val, .int .i64 (n : Int)]) ++ (l.drop k).flatMap RSl.cells := by
          unfold insL
          simp [RSl.cells, List.flatMap_append, List.flatMap_cons]
        rw [e1, e2]
        simpa using hown3
      · rcases (ins_mem _ _ _ _).1 hs with h | rfl
        · exact own_below (Hr.out.deps s h) hb5
        · exact own_below HvW.out hb5
    have e5 := (hb5.cell (p := ⟨p, 1, none⟩) hplt).trans c1
    have l5 : w5.frozen? ⟨p, 1, none⟩ = false := (hb5.frozen (p := ⟨p, 1, none⟩) hplt).trans f1
    obtain ⟨I, T⟩ := rs_put (sl := insL S.slots k ⟨pos, n, r⟩) HWd.out hb5 hrs (by unfold insL; simp [← Hl.out]) hok2.out (by rw [insL_length _ _ _ hk]; omega)
    obtain ⟨a3, cc3, rfl⟩ := ownsRow_slice hown3
    have F := hide (show _ ∧ _ from ⟨I, T.of_touch TW.out⟩)
    clear I T hown3 hgrow3 hrs hb5 hown2 hb4 hsrc4 d1
    go_wp2_with fail
    go_end0
    exact ⟨rfl, F.out⟩

end Go.Proofs.YtncmocmmkbmmjaaGreatDoor
