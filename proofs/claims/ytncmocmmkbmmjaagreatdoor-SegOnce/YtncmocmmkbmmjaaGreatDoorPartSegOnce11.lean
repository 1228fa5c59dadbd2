/- Own work: the parts R11, S18, S19, S12, S20, S21 of the proof, laid together. -/
import Derived.Test.YtncmocmmkbmmjaaGreatDoorPartSegOnce10
import Derived.Maps.OwnIn
import Derived.Test.YtncmocmmkbmmjaaGreatDoorPartSegOnce9
import Derived.LaidEqlPtr
/- The laws' Rows: what a range over numbers and records tells. Own work; no statement. -/
set_option linter.unusedSimpArgs false
set_option linter.unusedVariables false
namespace Go.Proofs.YtncmocmmkbmmjaaGreatDoor
open Go.RowKit Go.Shelf Go.Sort

attribute [local go_sem] Oper.semAt_some

theorem Tryz.info57 : (Tryz.prog.info? 57).map (fun i => (i.zero, i.size, i.bytes)) = some (some (.agg #[.int .i64 0, .int .i64 0, .slice none 0 0, .string ⟨#[]⟩, .string ⟨#[]⟩]), 5, 72) := by kernel_rfl

theorem size_set (W : World) (a : Addr) (v : Value) : (W.setCell a v).heap.size = W.heap.size := by simp [World.setCell]
/-- 'x = append(x, ..)' by way of x's box B, the rows all beyond the boxes. -/
theorem box_app {W w1 : World} {B n₀ : Nat} {T e : TypeId} {size : Nat} {v v1 : Value} {n m : Nat} {xs ys : List Value} {o : Obj} (hbx : Boxed W B T v) (hrow : W.ownsRow n₀ e size v n xs) (hB : B < n₀) (hn : n₀ ≤ W.heap.size)
    (hown1 : w1.ownsRow n₀ e size v1 m ys) (hgrow : (W.alloc o).grownBy w1 v.ownBlock) :
    Boxed w1 B T v ∧ Boxed (w1.setCell ⟨B, 0, none⟩ v1) B T v1 ∧ (w1.setCell ⟨B, 0, none⟩ v1).ownsRow n₀ e size v1 m ys ∧ KeepsOthers W (w1.setCell ⟨B, 0, none⟩ v1) ∧
      (∀ k, k < W.heap.size → k ≠ B → v.ownBlock ≠ some k → (w1.setCell ⟨B, 0, none⟩ v1).heap[k]? = W.heap[k]?) ∧ (∀ b w, b ≤ B → Below b w W → Below b w (w1.setCell ⟨B, 0, none⟩ v1)) := by
  have hne : some B ≠ v.ownBlock := fun e' => by have := (hrow.lt B e'.symm).1; omega
  have hv1 : Boxed w1 B T v := (hbx.alloc o).kept hgrow hne
  refine ⟨hv1, hv1.set v1, ownsRow_of_heap hown1 (fun k hk => Below.heap_setCell _ _ _ _ (fun e' => by have := (hown1.lt k hk).1; have e2 : k = B := e'; omega)), ?_, ?_, ?_⟩
  · refine ((KeepsOthers.alloc W o).trans (KeepsOthers.of_grownBy hgrow fun j o' ej hj => ?_)).trans (KeepsOthers.setCell _ _ _)
    rcases (hrow.alloc o).2 with ⟨rfl, _⟩ | ⟨g, cap, cur, rfl, _, hgb, _⟩
    · simp [Value.ownBlock] at ej
    · obtain rfl : g = j := by simpa [Value.ownBlock] using ej
      rw [hgb] at hj; cases hj; rfl
  · exact fun k hk hkB hkr => app_other hgrow k hk (fun e' => hkr e'.symm) hkB
  · intro b w hb h
    have := hbx.lt
    exact ((h.alloc (by omega) o).grown hgrow (by simp; omega) (fun j ej => by have := (hrow.lt j ej).1; omega)).setCell (p := ⟨B, 0, none⟩) hb v1

theorem keepsFrom_below {B : Nat} {A W : World} (h : Below A.heap.size A W) : KeepsFrom B A W := ⟨h.size, fun k o _ ho _ => keepB ho h⟩
theorem below_put {A W : World} {l : Nat} {o' : Obj} (h : Below A.heap.size A W) : Below (A.putObj l o').heap.size (A.putObj l o') (W.putObj l o') := by
  refine ⟨h.os, h.tape, h.output, by simpa [World.putObj] using h.size, fun k hk => ?_⟩
  have hk' : k < A.heap.size := by simpa [World.putObj] using hk
  have hs := h.size
  unfold World.putObj
  simp only [Array.getElem?_setIfInBounds]
  by_cases e : l = k
  · subst e
    rw [if_pos rfl, if_pos rfl, if_pos hk', if_pos (by omega)]
  · rw [if_neg e, if_neg e]
    exact h.block k hk'

def Pl.cells5 (p : Pl) : List Value := [.int .i64 p.r.site, .int .i64 p.r.seq, p.vd, .string p.r.key, .string p.r.val]

theorem five_one {p : Pl} {a : Option Addr} {n c : Nat} (h : p.vd = .slice a n c) : ∀ u ∈ p.cells5, u.oneCell' = true := by
  intro u hu
  simp only [Pl.cells5, h, List.mem_cons, List.not_mem_nil, or_false] at hu
  rcases hu with rfl | rfl | rfl | rfl | rfl <;> rfl

/-- What lies in the boxes of Rows, and in its rows. -/
structure InRows (o most : Nat) (la lb : List Pl) (W : World) (va vb : Value) : Prop where
  m : Boxed W o 3 (.int .i64 (most : Int))
  r1 : Boxed W (o + 1) 54 (.slice none 0 0)
  r2 : Boxed W (o + 2) 59 (.slice none 0 0)
  r3 : Boxed W (o + 3) 4 (.bool false)
  a : Boxed W (o + 4) 54 va
  b : Boxed W (o + 5) 59 vb
  ra : W.ownsRow (o + 6) 3 1 va la.length (la.map fun p => .int .i64 p.i)
  rb : W.ownsRow (o + 6) 57 5 vb lb.length (lb.flatMap Pl.cells5)

theorem row_keep {o : Nat} {W W' : World} (hk : ∀ (k : Nat) (c : Array Value) (t : TypeId) (f : Nat × Nat), W.heap[k]? = some (.cells c t f) → W'.heap[k]? = W.heap[k]?) {e : TypeId} {s : Nat} {v : Value} {n : Nat} {xs : List Value} (h : W.ownsRow o e s v n xs) : W'.ownsRow o e s v n xs :=
  ownsRow_of_heap h fun k e' => by
    rcases h.2 with ⟨rfl, _⟩ | ⟨g, cap, cur, rfl, _, hg, _⟩
    · cases e'
    · obtain rfl : g = k := by simpa [Value.ownBlock] using e'
      exact hk _ _ _ _ hg
theorem InRows.keep {o most : Nat} {la lb : List Pl} {W W' : World} {va vb : Value} (h : InRows o most la lb W va vb) (hk : ∀ (k : Nat) (c : Array Value) (t : TypeId) (f : Nat × Nat), W.heap[k]? = some (.cells c t f) → W'.heap[k]? = W.heap[k]?) : InRows o most la lb W' va vb :=
  ⟨boxed_of_heap h.m (hk _ _ _ _ h.m), boxed_of_heap h.r1 (hk _ _ _ _ h.r1), boxed_of_heap h.r2 (hk _ _ _ _ h.r2), boxed_of_heap h.r3 (hk _ _ _ _ h.r3), boxed_of_heap h.a (hk _ _ _ _ h.a), boxed_of_heap h.b (hk _ _ _ _ h.b), row_keep hk h.ra, row_keep hk h.rb⟩
theorem InRows.below {o most : Nat} {la lb : List Pl} {W W' : World} {va vb : Value} (h : InRows o most la lb W va vb) (hb : Below W.heap.size W W') : InRows o most la lb W' va vb :=
  h.keep fun k _ _ _ e => hb.block k (Array.getElem?_eq_some_iff.1 e).1

theorem InRows.appA {o most : Nat} {la lb : List Pl} {W w1 : World} {va vb v1 : Value} {p : Pl} {ob : Obj} (h : InRows o most la lb W va vb) (hown1 : w1.ownsRow (o + 6) 3 1 v1 (la.length + 1) ((la.map fun p => .int .i64 p.i) ++ [.int .i64 p.i])) (hgrow : (W.alloc ob).grownBy w1 va.ownBlock) :
    Boxed w1 (o + 4) 54 va ∧ InRows o most (la ++ [p]) lb (w1.setCell ⟨o + 4, 0, none⟩ v1) v1 vb ∧ KeepsOthers W (w1.setCell ⟨o + 4, 0, none⟩ v1) ∧ (∀ k, k < W.heap.size → k ≠ o + 4 → va.ownBlock ≠ some k → (w1.setCell ⟨o + 4, 0, none⟩ v1).heap[k]? = W.heap[k]?) ∧
      (∀ b w, b ≤ o + 4 → Below b w W → Below b w (w1.setCell ⟨o + 4, 0, none⟩ v1)) := by
  have hlt := h.b.lt
  obtain ⟨x1, x2, x3, x4, x5, x6⟩ := box_app h.a h.ra (by omega) (by omega) hown1 hgrow
  have bk : ∀ k, k < o + 6 → k ≠ o + 4 → (w1.setCell ⟨o + 4, 0, none⟩ v1).heap[k]? = W.heap[k]? := fun k hk hne => x5 k (by omega) hne (fun e => by have := (h.ra.lt k e).1; omega)
  refine ⟨x1, ⟨boxed_of_heap h.m (bk _ (by omega) (by omega)), boxed_of_heap h.r1 (bk _ (by omega) (by omega)), boxed_of_heap h.r2 (bk _ (by omega) (by omega)), boxed_of_heap h.r3 (bk _ (by omega) (by omega)), x2, boxed_of_heap h.b (bk _ (by omega) (by omega)), ?_, ?_⟩, x4, x5, x6⟩
  · rw [List.length_append, List.map_append]
    exact x3
  · exact ownsRow_of_heap h.rb fun k e => x5 k (h.rb.lt k e).2 (by have := (h.rb.lt k e).1; omega) (fun e' => rows_apart (by decide) h.rb h.ra k e e')
theorem InRows.appB {o most : Nat} {la lb : List Pl} {W w1 : World} {va vb v1 : Value} {p : Pl} {ob : Obj} (h : InRows o most la lb W va vb) (hown1 : w1.ownsRow (o + 6) 57 5 v1 (lb.length + 1) (lb.flatMap Pl.cells5 ++ p.cells5)) (hgrow : (W.alloc ob).grownBy w1 vb.ownBlock) :
    Boxed w1 (o + 5) 59 vb ∧ InRows o most la (lb ++ [p]) (w1.setCell ⟨o + 5, 0, none⟩ v1) va v1 ∧ KeepsOthers W (w1.setCell ⟨o + 5, 0, none⟩ v1) ∧ (∀ k, k < W.heap.size → k ≠ o + 5 → vb.ownBlock ≠ some k → (w1.setCell ⟨o + 5, 0, none⟩ v1).heap[k]? = W.heap[k]?) ∧
      (∀ b w, b ≤ o + 5 → Below b w W → Below b w (w1.setCell ⟨o + 5, 0, none⟩ v1)) := by
  have hlt := h.b.lt
  obtain ⟨x1, x2, x3, x4, x5, x6⟩ := box_app h.b h.rb (by omega) (by omega) hown1 hgrow
  have bk : ∀ k, k < o + 6 → k ≠ o + 5 → (w1.setCell ⟨o + 5, 0, none⟩ v1).heap[k]? = W.heap[k]? := fun k hk hne => x5 k (by omega) hne (fun e => by have := (h.rb.lt k e).1; omega)
  refine ⟨x1, ⟨boxed_of_heap h.m (bk _ (by omega) (by omega)), boxed_of_heap h.r1 (bk _ (by omega) (by omega)), boxed_of_heap h.r2 (bk _ (by omega) (by omega)), boxed_of_heap h.r3 (bk _ (by omega) (by omega)), boxed_of_heap h.a (bk _ (by omega) (by omega)), x2, ?_, ?_⟩, x4, x5, x6⟩
  · exact ownsRow_of_heap h.ra fun k e => x5 k (h.ra.lt k e).2 (by have := (h.ra.lt k e).1; omega) (fun e' => rows_apart (by decide) h.ra h.rb k e e')
  · rw [List.length_append, List.flatMap_append]
    simpa using x3

end Go.Proofs.YtncmocmmkbmmjaaGreatDoor

/- seg's All, and the sequence that it answers. Own work; no statement. -/
set_option linter.unusedSimpArgs false
set_option linter.unusedVariables false
namespace Go.Proofs.YtncmocmmkbmmjaaGreatDoor
open Go.RowKit Go.Shelf Go.Sort

attribute [local go_sem] Oper.semAt_some

/-- A box with a row of its own of slots: what All goes over. -/
structure IsSlots (w : World) (b c : Nat) (v : Value) (qs : List Nat) (l : List SlotD) : Prop where
  box : w.heap[b]? = some (.cells #[v] 80 (0, 0))
  row : w.ownsRow 0 106 1 v qs.length (qs.map ptrV)
  len : qs.length = l.length
  each : ∀ i (h : i < qs.length) (h' : i < l.length), SlotAt w c qs[i] l[i]

theorem IsSlots.span {w w' : World} {b c : Nat} {v : Value} {qs : List Nat} {l : List SlotD} (h : IsSlots w b c v qs l) (hk : ∀ k, k < w.heap.size → w'.heap[k]? = w.heap[k]?) : IsSlots w' b c v qs l := by
  refine ⟨(hk b (ltAt h.box)).trans h.box, ownsRow_of_heap h.row fun k e => hk k (h.row.lt k e).2, h.len, fun i h1 h2 => ?_⟩
  obtain ⟨vd, x1, x2, x3⟩ := h.each i h1 h2
  exact ⟨vd, x1, (hk _ (ltAt x2)).trans x2, ownsRow_of_heap x3 fun k e => hk k (x3.lt k e).2⟩

set_option maxHeartbeats 2000000 in
theorem segAll_calls (B : Nat) (m : SegM) (S : SegD) (w : World) (hd : IsSeg w B m S) :
    Calls Tryz.prog 23 #[.pointer (some ⟨m.p, 0, none⟩)] w fun e w' => ∃ b v qs, e = .returned (.func (.func 56) #[] #[.pointer (some ⟨b, 0, none⟩)]) ∧ IsSlots w' b m.c v qs S.slots ∧ Below w.heap.size w w' := by
  have hmf : ∀ (fn : Fn) (first cap : Array Value) (w : World), (Instr.makeFunc fn first cap).run Tryz.prog w = .ok (.func fn first cap) w := fun _ _ _ _ => rfl
  obtain ⟨v, qs, hv, hl, hp, hr, hs⟩ := hd.val
  have hlen := hd.disk.len
  have hfew := hd.ok.few
  obtain ⟨a, cap, rfl⟩ := ownsRow_slice hr
  have C := hide (cloneSlots_calls B _ qs w hr (by omega))
  have c3 := (cells4 hp).2.2.2.1
  have Hs := hide hs
  have Hl := hide hl
  clear hd hr hp hv hs hl
  go_enter Tryz.func23, Tryz.ntmps23
  go_wp2_with fail
  refine C.out.mono ?_
  rintro e w1 ⟨v', rfl, hown, hB1⟩
  obtain ⟨a', cap', rfl⟩ := ownsRow_slice hown
  go_wp2_with fail
  go_ret
  have hB2 := hB1.alloc hB1.size (.cells #[.slice a' qs.length cap'] 80)
  exact ⟨w1.heap.size, .slice a' qs.length cap', qs, rfl, ⟨World.alloc_heap_new w1 _, ownsRow_low (World.ownsRow.alloc hown _) (Nat.zero_le _), Hl.out, fun i h1 h2 => (Hs.out i h1 h2).below hB2⟩, hB2⟩

set_option maxRecDepth 100000 in
set_option maxHeartbeats 4000000 in
theorem segAll1_in (n : Nat) (hn : 1 ≤ n) (lp b c hi : Nat) (v : Value) (qs : List Nat) (l : List SlotD) (hlen : l.length ≤ 1048576) (hd : ∀ p ∈ l, p.r.dep.length ≤ 17592186044416) (J Jx : List Pl → World → Prop)
    (hY : ∀ pre x A W, J pre A → GivesPl x A W → pre.length < l.length → YieldAt Fence.wide (n - 1) Tryz.prog lp (encPl x) W fun e W' =>
      (e = .returned (.bool true) ∧ J (pre ++ [x]) W' ∧ KeepsSpan 0 hi W W') ∨ (e = .returned (.bool false) ∧ Jx (pre ++ [x]) W'))
    (W : World) (hhi : hi ≤ W.heap.size) (hpos : 0 < hi) (hbl : ∀ W', KeepsSpan 0 hi W W' → IsSlots W' b c v qs l) (h0 : J [] W) :
    CallsIn Fence.wide n Tryz.prog 56 #[.func (.yield lp) #[] #[], .pointer (some ⟨b, 0, none⟩)] W fun e W' => (∃ v, e = .returned v) ∧
      ((∃ ys, ys.map (fun p => (p.i, p.r)) = l.map (fun p => (p.pos, p.r)) ∧ J ys W') ∨ (∃ pre, pre.map (fun p => (p.i, p.r)) <+: l.map (fun p => (p.pos, p.r)) ∧ Jx pre W')) := by
  refine callsIn_of_wp Tryz.func56 rfl trivial ?_ rfl
  simp only [Tryz.ntmps56, List.size_toArray, List.length_cons, List.length_nil, Nat.reduceAdd, Nat.reduceSub, Array.replicate_succ, Array.replicate_zero, List.push_toArray, List.append_toArray, List.nil_append, List.cons_append]
  have hA := hbl W (fun _ _ _ => rfl)
  have hql := hA.len
  obtain ⟨va, vcap, rfl⟩ := ownsRow_slice hA.row
  have HY := hide hY
  have Hbl := hide hbl
  have Hd := hide hd
  have hbc := cellsAt hA.box 0
  simp only [List.getElem?_toArray, List.getElem?_cons_zero] at hbc
  rw [hql] at hbc
  have Hql := hide hql
  clear hY hbl hd hA hql
  gi_wp2
  clear hbc
  gi_loopw [7] (fun i wr => ∃ (k : Nat) (pre : List Pl), k ≤ l.length ∧ i = .int .i64 (k : Int) ∧ pre.map (fun p => (p.i, p.r)) = (l.take k).map (fun p => (p.pos, p.r)) ∧ J pre wr ∧ KeepsSpan 0 hi W wr) (fun i _ => l.length - (intOf i).toNat)
  case atStart => exact ⟨0, [], Nat.zero_le _, rfl, rfl, h0, fun _ _ _ => rfl⟩
  case round =>
    obtain ⟨k, pre, hk, rfl, hpre, hJs, hks⟩ := hrel
    have hsz := hks.size hhi hpos
    by_cases hlt : k < l.length
    · have hltI : (k : Int) < (l.length : Int) := by omega
      have hofr := Hbl.out wr hks
      have hkq : k < qs.length := by have := Hql.out; omega
      obtain ⟨vd, -, hq, hrow⟩ := hofr.each k hkq hlt
      rcases hofr.row.2 with ⟨e1, e2⟩ | ⟨g, cap', cur, e1, hgb, hg, hnc, hcm, hcs, htk⟩
      · omega
      · obtain ⟨rfl, rfl⟩ : va = some ⟨g, 0, none⟩ ∧ vcap = cap' := by simp at e1; exact e1
        have cq : wr.cell? ⟨g, k, none⟩ = some (.pointer (some ⟨qs[k], 0, none⟩)) := by
          rw [hofr.row.cellAt k (by omega)]
          simp [ptrV, hkq]
        have hmem := List.getElem_mem hlt
        have hdl := Hd.out _ hmem
        have htk2 : (l.take (k + 1)).map (fun p => (p.pos, p.r)) = (l.take k).map (fun p => (p.pos, p.r)) ++ [((l[k]).pos, (l[k]).r)] := by rw [List.take_succ_eq_append_getElem hlt, List.map_append]; rfl
        obtain ⟨p, hp⟩ : ∃ p, l[k] = p := ⟨_, rfl⟩
        rw [hp] at hq hrow hdl htk2
        obtain ⟨pi, ln, ⟨site, seq, dep, key, val⟩⟩ := p
        generalize qs[k] = q at *
        dsimp only at *
        obtain ⟨da, dcap, rfl⟩ := ownsRow_slice hrow
        obtain ⟨c0, -, c2, c3, c4, c5, c6, -, -, -, -, -, -, -⟩ := cells7 hq
        have HB1 : Below wr.heap.size wr wr.drew := (Below.refl _ wr).drew
        have C := hide (segCopied_calls (.agg #[.int .i64 site, .int .i64 seq, .slice da dep.length dcap, .string key, .string val]) ⟨site, seq, dep, key, val⟩ wr.drew ⟨da, dcap, rfl, (IsNums.of_row hrow).below HB1⟩ hdl)
        have Y0 := hide (show wr.drew.heap[q]? = _ from hq)
        have hplen : pre.length = k := by have := congrArg List.length hpre; simpa [Nat.min_eq_left hk] using this
        have HB2 := hide HB1
        have Htk2 := hide htk2
        have Hpre := hide hpre
        have Hpl := hide hplen
        clear hofr hg hnc hcm hcs htk hrow hp hq HB1 htk2 hpre hplen e1
        gi_wp2
        gi_region_with (first | (refine ⟨trivial, ?_⟩; gi_at_call 57; refine ((callsIn_wide (n := _)).2 C.out).mono ?_; rintro e w3 ⟨v', rfl, hrecw, hb⟩; obtain ⟨vd', rfl, hvd'⟩ := hrecw; obtain ⟨va', vcap', rfl⟩ := ownsRow_slice hvd'; have hB3 := HB2.out.trans (hb.mono HB2.out.size); obtain ⟨fn, tmps, assign, body, hy, hR⟩ := HY.out pre ⟨pi, ⟨site, seq, dep, key, val⟩, .slice va' dep.length vcap'⟩ wr w3 hJs ⟨hB3, hvd', hdl⟩ (by have := Hpl.out; omega); dsimp only [encPl] at hy; have d0 := (cells7 (keepB Y0.out hb)).1) | (refine hR.mono ?_; rintro e W4 hW4; obtain ⟨b, rfl, hb4⟩ := yield_bool hW4))
        all_goals
          rcases hb4 with ⟨rfl, hJ4, hk4⟩ | ⟨rfl, hJx4⟩
          · gi_wp2
            exact ⟨⟨k + 1, _, by omega, by go_num, by rw [List.map_append, Hpre.out, Htk2.out]; rfl, hJ4, keepsSpan_t hks (keepsSpan_t (KeepsSpan.of_below hB3 hsz) hk4)⟩, by simp [intOf]; omega⟩
          · gi_wp2
            refine bodyPost_ret (results_none rfl _ _ _) rfl ?_
            refine ⟨⟨_, rfl⟩, .inr ⟨_, ?_, hJx4⟩⟩
            rw [List.map_append, Hpre.out]
            refine ⟨(l.drop (k + 1)).map (fun p => (p.pos, p.r)), ?_⟩
            have e := Htk2.out
            simp only [List.map_cons, List.map_nil]
            rw [← e, ← List.map_append, List.take_append_drop]
    · obtain rfl : k = l.length := by omega
      gi_wp2
      go_end0
      exact ⟨⟨_, rfl⟩, .inl ⟨pre, by rw [hpre, List.take_of_length_le (Nat.le_refl _)], hJs⟩⟩

/-- What All answers: a sequence that goes over the records, rising, as long as it is asked. -/
theorem segAll_stops (n : Nat) (hn : 1 ≤ n) (b c : Nat) (v : Value) (qs : List Nat) (l : List SlotD) (hlen : l.length ≤ 1048576) (hd : ∀ p ∈ l, p.r.dep.length ≤ 17592186044416) (w0 w : World) (hA : IsSlots w0 b c v qs l) (hw : Below w0.heap.size w0 w) :
    SeqR n Tryz.prog 56 #[.pointer (some ⟨b, 0, none⟩)] encPl (KeepsSpan 0 w0.heap.size) GivesPl (fun ys => ys.map (fun p => (p.i, p.r)) = l.map (fun p => (p.pos, p.r)))
      (fun pre => pre.map (fun p => (p.i, p.r)) <+: l.map (fun p => (p.pos, p.r))) l.length w := fun lp J Jx W hW hY h0 =>
  have hW0 : Below w0.heap.size w0 W := hw.trans (hW.mono hw.size)
  segAll1_in n hn lp b c w0.heap.size v qs l hlen hd J Jx hY W hW0.size (Nat.lt_of_le_of_lt (Nat.zero_le _) (ltAt hA.box))
    (fun W' hk => hA.span fun k h2 => (hk k (Nat.zero_le _) h2).trans (hW0.block k h2)) h0

end Go.Proofs.YtncmocmmkbmmjaaGreatDoor

/- The laws' Rows over any sequence of numbers and records: what it tells, the records too. Own work; no statement. -/
set_option linter.unusedSimpArgs false
set_option linter.unusedVariables false
namespace Go.Proofs.YtncmocmmkbmmjaaGreatDoor
open Go.RowKit Go.Shelf Go.Sort

attribute [local go_sem] Oper.semAt_some

/-- The records' numbers lie in rows of their own, none of which is va's. -/
def DepsIn (o : Nat) (W : World) (va : Value) (l : List Pl) : Prop := ∀ p ∈ l, W.ownsRow (o + 6) 3 1 p.vd p.r.dep.length (p.r.dep.map (Value.int .i64)) ∧ ∀ k, p.vd.ownBlock = some k → va.ownBlock ≠ some k
theorem DepsIn.keep {o : Nat} {W W' : World} {va : Value} {l : List Pl} (h : DepsIn o W va l) (hk : ∀ (k : Nat) (c : Array Value) (t : TypeId) (f : Nat × Nat), W.heap[k]? = some (.cells c t f) → W'.heap[k]? = W.heap[k]?) : DepsIn o W' va l :=
  fun p hp => ⟨row_keep hk (h p hp).1, (h p hp).2⟩

theorem flat5 : ∀ (pl : List Pl) (k j : Nat) (h : k < pl.length), j < 5 → (pl.flatMap Pl.cells5)[k * 5 + j]? = (pl[k]).cells5[j]?
  | [], _, _, h, _ => absurd h (by simp)
  | p :: pl, 0, j, _, hj => by
    rw [List.flatMap_cons, List.getElem?_append_left (by simp [Pl.cells5]; omega)]
    simp
  | p :: pl, k + 1, j, h, hj => by
    rw [List.flatMap_cons, List.getElem?_append_right (by simp [Pl.cells5]; omega)]
    have e : (k + 1) * 5 + j - p.cells5.length = k * 5 + j := by simp [Pl.cells5]; omega
    rw [e, flat5 pl k j (by simpa using h) hj]
    simp

/-- A row of records, each one's numbers in a row of their own, read. -/
theorem recs_of_row {w : World} {o : Nat} {v : Value} {l : List Pl} (h : w.ownsRow o 57 5 v l.length (l.flatMap Pl.cells5)) (hd : ∀ p ∈ l, w.ownsRow o 3 1 p.vd p.r.dep.length (p.r.dep.map (Value.int .i64))) : IsRecs w v (l.map (·.r)) := by
  obtain ⟨a, cap, rfl⟩ := ownsRow_slice h
  refine ⟨a, cap, by simp, fun t ht => ?_⟩
  have ht' : t < l.length := by simpa using ht
  rcases h.2 with ⟨e1, e2⟩ | ⟨g, cap', cur, e1, -⟩
  · omega
  · simp only [Value.slice.injEq] at e1
    obtain ⟨rfl, -, rfl⟩ := e1
    have hdep := hd _ (List.getElem_mem ht')
    have hcell : ∀ j, j < 5 → w.cell? ⟨g, t * 5 + j, none⟩ = (l[t]).cells5[j]? := fun j hj => by
      rw [h.cellAt (t * 5 + j) (by omega)]
      exact flat5 l t j ht' hj
    have c0 := hcell 0 (by omega)
    have c1 := hcell 1 (by omega)
    have c2 := hcell 2 (by omega)
    have c3 := hcell 3 (by omega)
    have c4 := hcell 4 (by omega)
    simp only [Pl.cells5, List.getElem?_cons_zero, List.getElem?_cons_succ, Nat.add_zero] at c0 c1 c2 c3 c4
    obtain ⟨da, dcap, hda⟩ := ownsRow_slice hdep
    rw [hda] at c2 hdep
    refine ⟨g, 0, rfl, da, dcap, ?_⟩
    simp only [List.getElem_map, Nat.zero_add]
    exact ⟨c0, c1, c2, c3, c4, IsNums.of_row hdep⟩

set_option maxRecDepth 100000 in
set_option maxHeartbeats 4000000 in
theorem rowsG_calls (gf : Nat) (lb : Array Value) (hi0 : Nat) (pl : List (Int × RecD)) (most : Nat) (w : World) (hhi : hi0 ≤ w.heap.size) (heg : ∀ args w, (callFunc gf args).run Tryz.prog w = .ok (.enter gf args) w)
    (hseq : ∀ w', Below w.heap.size w w' → SeqR 4 Tryz.prog gf lb encPl (KeepsSpan 0 hi0) GivesPl (fun ys => ys.map (fun p => (p.i, p.r)) = pl) (fun pre => pre.map (fun p => (p.i, p.r)) <+: pl) pl.length w') (hl : pl.length ≤ most) (hm : most ≤ 1048576) :
    Calls Tryz.prog 22 #[.func (.func gf) #[] lb, .int .i64 (most : Int)] w fun e w' => ∃ va vb, e = .returned (.tuple #[va, vb, .bool true]) ∧
      IsNums .i64 w' va (pl.map (·.1)) ∧ IsRecs w' vb (pl.map (·.2)) ∧ Below w.heap.size w w' := by
  have heq : ∀ (fn : Fn) (first cap : Array Value) (w : World), (binOp .eql 63 (.func fn first cap) .nilFunc).run Tryz.prog w = .ok (.bool false) w := fun _ _ _ _ => by kernel_rfl
  obtain ⟨i0, hi, hz0, hz1, hz2⟩ := info_parts Tryz.info3
  obtain ⟨j0, ji, jz0, jz1, jz2⟩ := info_parts Tryz.info57
  refine (callsIn_wide (n := 5)).1 ?_
  refine callsIn_of_wp_marks Tryz.func22 rfl trivial ?_ rfl
  simp only [Tryz.ntmps22, List.size_toArray, List.length_cons, List.length_nil, Nat.reduceAdd, Nat.reduceSub, Array.replicate_succ, Array.replicate_zero, List.push_toArray, List.append_toArray, List.nil_append, List.cons_append]
  gi_wp2
  have b0 := Boxed.new w 3 (.int .i64 (most : Int))
  obtain ⟨w1', hw1⟩ : ∃ w', w.alloc (.cells #[.int .i64 (most : Int)] 3) = w' := ⟨_, rfl⟩
  have s1 : w1'.heap.size = w.heap.size + 1 := by rw [← hw1]; simp
  have b1 := Boxed.new w1' 54 (.slice none 0 0)
  obtain ⟨w2', hw2⟩ : ∃ w', w1'.alloc (.cells #[.slice none 0 0] 54) = w' := ⟨_, rfl⟩
  have s2 : w2'.heap.size = w.heap.size + 2 := by rw [← hw2]; simp [s1]
  have b2 := Boxed.new w2' 59 (.slice none 0 0)
  obtain ⟨w3', hw3⟩ : ∃ w', w2'.alloc (.cells #[.slice none 0 0] 59) = w' := ⟨_, rfl⟩
  have s3 : w3'.heap.size = w.heap.size + 3 := by rw [← hw3]; simp [s2]
  have b3 := Boxed.new w3' 4 (.bool false)
  obtain ⟨w4', hw4⟩ : ∃ w', w3'.alloc (.cells #[.bool false] 4) = w' := ⟨_, rfl⟩
  have s4 : w4'.heap.size = w.heap.size + 4 := by rw [← hw4]; simp [s3]
  have b4 := Boxed.new w4' 54 (.slice none 0 0)
  obtain ⟨w5', hw5⟩ : ∃ w', w4'.alloc (.cells #[.slice none 0 0] 54) = w' := ⟨_, rfl⟩
  have s5 : w5'.heap.size = w.heap.size + 5 := by rw [← hw5]; simp [s4]
  have b5 := Boxed.new w5' 59 (.slice none 0 0)
  obtain ⟨w6', hw6⟩ : ∃ w', w5'.alloc (.cells #[.slice none 0 0] 59) = w' := ⟨_, rfl⟩
  have s6 : w6'.heap.size = w.heap.size + 6 := by rw [← hw6]; simp [s5]
  rw [hw1] at b0
  rw [hw2] at b1
  rw [hw3] at b2
  rw [hw4] at b3
  rw [hw5] at b4
  rw [hw6] at b5
  replace b0 : Boxed w6' w.heap.size 3 (.int .i64 (most : Int)) := by rw [← hw6, ← hw5, ← hw4, ← hw3, ← hw2]; exact (((((b0).alloc _).alloc _).alloc _).alloc _).alloc _
  replace b1 : Boxed w6' (w.heap.size + 1) 54 (.slice none 0 0) := by rw [s1] at b1; rw [← hw6, ← hw5, ← hw4, ← hw3]; exact ((((b1).alloc _).alloc _).alloc _).alloc _
  replace b2 : Boxed w6' (w.heap.size + 2) 59 (.slice none 0 0) := by rw [s2] at b2; rw [← hw6, ← hw5, ← hw4]; exact (((b2).alloc _).alloc _).alloc _
  replace b3 : Boxed w6' (w.heap.size + 3) 4 (.bool false) := by rw [s3] at b3; rw [← hw6, ← hw5]; exact ((b3).alloc _).alloc _
  replace b4 : Boxed w6' (w.heap.size + 4) 54 (.slice none 0 0) := by rw [s4] at b4; rw [← hw6]; exact (b4).alloc _
  replace b5 : Boxed w6' (w.heap.size + 5) 59 (.slice none 0 0) := by rw [s5] at b5; exact b5
  have hB6 : Below w.heap.size w w6' := by
    rw [← hw6, ← hw5, ← hw4, ← hw3, ← hw2, ← hw1]
    exact ((((((Below.refl _ w).alloc (Nat.le_refl _) _).alloc (by simp) _).alloc (by simp; omega) _).alloc (by simp; omega) _).alloc (by simp; omega) _).alloc (by simp; omega) _
  rw [hw1, hw2, hw3, hw4, hw5, hw6]
  clear hw1 hw2 hw3 hw4 hw5 hw6 s1 s2 s3 s4 s5 w1' w2' w3' w4' w5'
  simp only [Nat.add_assoc, Nat.reduceAdd]
  refine range_lawR (by decide) (gf := gf) (lb := lb) rfl heg
    (hseq w6' hB6) keepsSpan_t (keepsSpan_b (by omega)) ?hE (fun _ => rfl)
    (fun pre W => (∃ va vb, InRows w.heap.size most pre pre W va vb ∧ DepsIn w.heap.size W va pre) ∧ Below w.heap.size w W)
    (fun _ _ _ => False)
    (OwnFrom.and (Own.from (fun s X Y row hs hg hr => by
      obtain ⟨va, vb, h, h'⟩ := hs
      exact ⟨va, vb, h.keep fun k c t f e => own_keeps hg hr e, h'.keep fun k c t f e => own_keeps hg hr e⟩) _) (ownFrom_below (Nat.le_refl _) (by omega)))
    (fun _ _ _ _ _ hs _ _ => hs)
    ⟨⟨_, _, ⟨b0, b1, b2, b3, b4, b5, World.ownsRow_nil _ _ _ _, World.ownsRow_nil _ _ _ _⟩, fun p hp => (by cases hp)⟩, hB6⟩
    (fun x A a' W => ∃ Bx va vc, Below A.heap.size A W ∧ x.vd = .slice va x.r.dep.length vc ∧ A.heap.size ≤ Bx ∧ W.ownsRow A.heap.size 3 1 x.vd x.r.dep.length (x.r.dep.map (Value.int .i64)) ∧ W.heap[Bx]? = some (.cells #[.int .i64 x.r.site, .int .i64 x.r.seq, x.vd, .string x.r.key, .string x.r.val] 57 (0, 0)) ∧ a' = { tmps := #[.func (.func gf) #[] lb, .int .i64 (most : Int), undef, .pointer (some ⟨w.heap.size, 0, none⟩), .pointer (some ⟨w.heap.size + 1, 0, none⟩), .pointer (some ⟨w.heap.size + 2, 0, none⟩), .pointer (some ⟨w.heap.size + 3, 0, none⟩), .pointer (some ⟨w.heap.size + 4, 0, none⟩), .pointer (some ⟨w.heap.size + 5, 0, none⟩), .int .i64 x.i, .pointer (some ⟨Bx, 0, none⟩), .func (.func gf) #[] lb, .bool false, .func (.func gf) #[] lb, .int .i64 x.i, .agg #[.int .i64 x.r.site, .int .i64 x.r.seq, x.vd, .string x.r.key, .string x.r.val], undef, undef, undef, undef, undef, undef, undef, undef, undef, undef, undef, undef, undef, undef, undef, undef], defers := [] })
    ?hAp ?assign ?body ?done ?stop
  case hE => exact fun x A W h => keepsFrom_below h.1
  case hAp =>
    rintro x A a' W l o o' ⟨Bx, va, vc, h1, h2, h3, h6, h4, h5⟩ _ hAl hWl ho
    refine ⟨Bx, va, vc, below_put h1, h2, by simpa [World.putObj] using h3, ?_, ?_, h5⟩
    · rw [show (A.putObj l o').heap.size = A.heap.size by simp [World.putObj]]
      refine row_keep (fun k c t f e => ?_) h6
      have hne : l ≠ k := by
        rintro rfl
        rw [e] at hWl
        cases hWl
        cases ho
      unfold World.putObj
      simp only [Array.getElem?_setIfInBounds]
      rw [if_neg hne]
    have hne : l ≠ Bx := by
      intro e
      rw [e, h4] at hWl
      cases hWl
      cases ho
    unfold World.putObj
    simp only [Array.getElem?_setIfInBounds]
    rw [if_neg hne]
    exact h4
  case assign =>
    clear b0 b1 b2 b3 b4 b5
    rintro l pre ⟨xi, ⟨site, seq, dep, key, val⟩, vd⟩ A W K hI hE hlt hK
    have hE2 := hE.2.1
    have hE1 := hE.1
    dsimp only [encPl] at *
    obtain ⟨va, vc, rfl⟩ := ownsRow_slice hE2
    have HE2 := hide hE2
    clear hE
    replace hK := hide hK
    have hz1 := hI.2.size
    have hz2' := hE1.size
    have HE1 := hide hE1
    clear hE1 hI hE2
    gi_wp2
    exact hK.out _ _ ⟨W.heap.size, va, vc, HE1.out.alloc HE1.out.size _, rfl, HE1.out.size, World.ownsRow.alloc HE2.out _, World.alloc_heap_new W _, rfl⟩ (keepsFrom_below (box_below W _)) (KeepsSpan.of_below (box_below W _) (by omega))
  case body =>
    clear b0 b1 b2 b3 b4 b5
    rintro lp pre x A a' W ⟨⟨va0, vb0, hin0, hdp0⟩, hBA⟩ ⟨Bx, va, vc, hAW, hvd, hBx, hxr, hbx, rfl⟩ hlt
    have hin := hin0.below hAW
    have hB := hBA.trans (hAW.mono hBA.size)
    have hA6 := hin0.b.lt
    have hbxl := ltB hbx
    have hdp : Hid (DepsIn w.heap.size W va0 (pre ++ [x])) := by
      intro p hp
      rcases List.mem_append.1 hp with h1 | h1
      · exact ⟨own_below (hdp0 p h1).1 hAW, (hdp0 p h1).2⟩
      · obtain rfl : p = x := by simpa using h1
        refine ⟨ownsRow_low hxr (by omega), fun k hk e => ?_⟩
        have q1 := (hxr.lt k hk).1
        have q2 := (hin0.ra.lt k e).2
        omega
    have nra : va0.ownBlock ≠ some Bx := fun e => by have := (hin0.ra.lt Bx e).2; omega
    have nrb : vb0.ownBlock ≠ some Bx := fun e => by have := (hin0.rb.lt Bx e).2; omega
    have hvd3 : ∀ u ∈ [Value.int .i64 x.r.site, .int .i64 x.r.seq, .slice va x.r.dep.length vc, .string x.r.key, .string x.r.val], u.oneCell' = true := by
      have := five_one hvd
      unfold Pl.cells5 at this
      rwa [hvd] at this
    have hc5 := hide (show x.cells5 = [Value.int .i64 x.r.site, .int .i64 x.r.seq, .slice va x.r.dep.length vc, .string x.r.key, .string x.r.val] by unfold Pl.cells5; rw [hvd])
    rw [hvd] at hbx ⊢
    obtain ⟨pa, ca, rfl⟩ := ownsRow_slice hin.ra
    obtain ⟨pb, cb, rfl⟩ := ownsRow_slice hin.rb
    have y0 := cell_at hbx 0
    have y1 := cell_at hbx 1
    have y2 := cell_at hbx 2
    have y3 := cell_at hbx 3
    have y4 := cell_at hbx 4
    simp only [List.getElem?_toArray, List.getElem?_cons_zero, List.getElem?_cons_succ] at y0 y1 y2 y3 y4
    have c1 := hin.a.cell
    have c2 := hin.b.cell
    have c3 := hin.m.cell
    have hlt2 : (pre.length : Int) < (most : Int) := by omega
    have hbs := hB.size
    have hW6 := hin.b.lt
    have Hin := hide hin
    have Hbx := hide hbx
    have HB := hide hB
    have Hvd := hide hvd
    clear hin hbx hB hin0 hAW hvd hdp0 hxr
    gi_wp2_with (first
      | (gi_at_builtin; refine wpListIn_append_own_at _ rfl (.tmp 22) _ 54 rfl (w.heap.size + 6) 3 i0 (.int .i64 0) 1 8 Tryz.underlying54 hi hz0 hz1 hz2 rfl (by decide) _ _ _ rfl (World.ownsRow.alloc Hin.out.ra _) ⟨_, 0, none⟩ 1 1 [.int .i64 x.i] rfl rfl (cell_one_at (by simp)) (by intro u hu; simp at hu; subst hu; rfl) (by unfold maxLen; omega) (by omega) (by simp; omega) ?_; intro v1 w1 hown1 hgrow1 _ hat1; obtain ⟨g1, cap1, rfl⟩ := ownsRow_succ hown1; obtain ⟨bx1, hin1, k1, o1, l1⟩ := Hin.out.appA (p := x) hown1 hgrow1; have d1 := bx1.cell; have f1 := bx1.frozen; have d2 := hin1.b.cell; have hbx1 := (o1 Bx hbxl (by omega) nra).trans Hbx.out; have q0 := cell_at hbx1 0; have q1 := cell_at hbx1 1; have q2 := cell_at hbx1 2; have q3 := cell_at hbx1 3; have q4 := cell_at hbx1 4; simp only [List.getElem?_toArray, List.getElem?_cons_zero, List.getElem?_cons_succ] at q0 q1 q2 q3 q4; have hs1 := k1.size; rw [size_set] at hs1; have Hin1 := hide hin1; have Hl1 := hide l1; have Ho1 := hide o1; have Hat1 := hide hat1; clear hgrow1 hat1 hown1 hin1 l1 o1 hbx1)
      | (gi_at_builtin; refine wpListIn_append_own_at _ rfl (.tmp 26) _ 59 rfl (w.heap.size + 6) 57 j0 _ 5 72 Tryz.underlying59 ji jz0 jz1 jz2 rfl (by decide) _ _ _ rfl (World.ownsRow.alloc Hin1.out.rb _) ⟨_, 0, none⟩ 1 1 [.int .i64 x.r.site, .int .i64 x.r.seq, .slice va x.r.dep.length vc, .string x.r.key, .string x.r.val] rfl rfl (cells_new (by simp)) (by intro u hu; exact hvd3 u hu) (by unfold maxLen; omega) (by omega) (by simp; omega) ?_; intro v2 w2 hown2 hgrow2 _ hat2; obtain ⟨g2, cap2, rfl⟩ := ownsRow_succ hown2; obtain ⟨bx2, hin2, k2, o2, l2⟩ := Hin1.out.appB (p := x) (by rw [hc5.out]; exact hown2) hgrow2; have e1 := bx2.cell; have f2 := bx2.frozen; clear hgrow2 hat2 hown2))
    have hB2 := l2 w.heap.size w (by omega) (Hl1.out w.heap.size w (by omega) HB.out)
    refine ⟨(k1.trans k2).from _, fun k h1 h2 => ?_, ⟨_, _, hin2, fun p hp => ?_⟩, hB2⟩
    · have hk : k < w.heap.size := by omega
      rw [hB2.block k hk, HB.out.block k hk]
    · obtain ⟨q1, q2⟩ := hdp.out p hp
      have ho1 := Ho1.out
      have hn : ∀ k, p.vd.ownBlock = some k → (Value.slice (some ⟨g1, 0, none⟩) (pre.length + 1) cap1).ownBlock ≠ some k := fun k hk e => by
        rcases Hat1.out with h3 | h3
        · exact q2 k hk (h3.symm.trans e)
        · have h4 : some (W.alloc _).heap.size = some k := h3.symm.trans e
          have h5 := (q1.lt k hk).2
          simp at h4
          omega
      refine ⟨ownsRow_of_heap q1 fun k hk => ?_, hn⟩
      have h5 := q1.lt k hk
      have hrb := Hin1.out.rb
      have q1' : (w1.setCell ⟨w.heap.size + 4, 0, none⟩ (.slice (some ⟨g1, 0, none⟩) (pre.length + 1) cap1)).ownsRow (w.heap.size + 6) 3 1 p.vd p.r.dep.length (p.r.dep.map (Value.int .i64)) := ownsRow_of_heap q1 fun k hk => ho1 k (q1.lt k hk).2 (by have := (q1.lt k hk).1; omega) (q2 k hk)
      have h7 := (q1'.lt k hk).2
      exact (o2 k h7 (by omega) (fun e => rows_apart (by decide) q1' hrb k hk e)).trans (ho1 k h5.2 (by omega) (q2 k hk))
  case done =>
    clear b0 b1 b2 b3 b4 b5
    rintro D ys W hD hys ⟨⟨va, vb, h, hdp⟩, hB⟩ hK
    have hlen : ys.length = pl.length := by have := congrArg List.length hys; simpa using this
    have hmap : ys.map (·.i) = pl.map (·.1) := by have := congrArg (List.map Prod.fst) hys; simpa [List.map_map, Function.comp_def] using this
    have hmap2 : ys.map (·.r) = pl.map (·.2) := by have := congrArg (List.map Prod.snd) hys; simpa [List.map_map, Function.comp_def] using this
    have Hdp := hide hdp
    have Hmap2 := hide hmap2
    obtain ⟨pa, ca, rfl⟩ := ownsRow_slice h.ra
    obtain ⟨pb, cb, rfl⟩ := ownsRow_slice h.rb
    have c1 := h.a.cell
    have c2 := h.b.cell
    have c4 := h.r1.cell
    have c5 := h.r2.cell
    have c6 := h.r3.cell
    have f4 := h.r1.frozen
    have f5 := h.r2.frozen
    have f6 := h.r3.frozen
    have Hlen := hide hlen
    have Hmap := hide hmap
    have Hh := hide h
    have HB := hide hB
    clear h hB hlen hmap hys hdp hmap2
    gi_wp2
    gi_region
    obtain ⟨va, hva⟩ : ∃ va, Value.slice pa ys.length ca = va := ⟨_, rfl⟩
    obtain ⟨vb, hvb⟩ : ∃ vb, Value.slice pb ys.length cb = vb := ⟨_, rfl⟩
    rw [hva, hvb] at Hh ⊢
    have hh := Hh.out
    obtain ⟨W3, hW3⟩ : ∃ W3, (((W.setCell ⟨w.heap.size + 1, 0, none⟩ va).setCell ⟨w.heap.size + 2, 0, none⟩ vb).setCell ⟨w.heap.size + 3, 0, none⟩ (.bool true)).drew = W3 := ⟨_, rfl⟩
    have hK3 : W3.heap[D]? = some (.deferred (some [])) := by
      rw [← hW3]
      exact (KeepsOthers.setCell _ _ _).same D _ ((KeepsOthers.setCell _ _ _).same D _ ((KeepsOthers.setCell _ _ _).same D _ hK rfl) rfl) rfl
    have hother : ∀ k, k ≠ w.heap.size + 1 → k ≠ w.heap.size + 2 → k ≠ w.heap.size + 3 → W3.heap[k]? = W.heap[k]? := by
      intro k h1 h2 h3
      rw [← hW3]
      exact (Below.heap_setCell _ _ _ _ h3).trans ((Below.heap_setCell _ _ _ _ h2).trans (Below.heap_setCell _ _ _ _ h1))
    have R1 : Boxed W3 (w.heap.size + 1) 54 va := by
      rw [← hW3]
      exact boxed_of_heap (boxed_of_heap (hh.r1.set va) (Below.heap_setCell _ _ _ _ (show w.heap.size + 1 ≠ w.heap.size + 2 by omega))) (Below.heap_setCell _ _ _ _ (show w.heap.size + 1 ≠ w.heap.size + 3 by omega))
    have R2 : Boxed W3 (w.heap.size + 2) 59 vb := by
      rw [← hW3]
      exact boxed_of_heap ((boxed_of_heap hh.r2 (Below.heap_setCell _ _ _ _ (show w.heap.size + 2 ≠ w.heap.size + 1 by omega))).set vb) (Below.heap_setCell _ _ _ _ (show w.heap.size + 2 ≠ w.heap.size + 3 by omega))
    have R3 : Boxed W3 (w.heap.size + 3) 4 (.bool true) := by
      rw [← hW3]
      exact (boxed_of_heap (boxed_of_heap hh.r3 (Below.heap_setCell _ _ _ _ (show w.heap.size + 3 ≠ w.heap.size + 1 by omega))) (Below.heap_setCell _ _ _ _ (show w.heap.size + 3 ≠ w.heap.size + 2 by omega))).set (.bool true)
    have rb := ownsRow_of_heap hh.rb (W' := W3) (fun k hk => by have := (hh.rb.lt k hk).1; exact hother k (by omega) (by omega) (by omega))
    have rd : ∀ p ∈ ys, W3.ownsRow (w.heap.size + 6) 3 1 p.vd p.r.dep.length (p.r.dep.map (Value.int .i64)) := fun p hp => ownsRow_of_heap (Hdp.out p hp).1 fun k hk => by have := ((Hdp.out p hp).1.lt k hk).1; exact hother k (by omega) (by omega) (by omega)
    have ra := ownsRow_of_heap hh.ra (W' := W3) (fun k hk => by have := (hh.ra.lt k hk).1; exact hother k (by omega) (by omega) (by omega))
    have hB3 : Below w.heap.size w W3 := by
      rw [← hW3]
      exact (((HB.out.setCell (p := ⟨w.heap.size + 1, 0, none⟩) (by simp) _).setCell (p := ⟨w.heap.size + 2, 0, none⟩) (by simp) _).setCell (p := ⟨w.heap.size + 3, 0, none⟩) (by simp) _).drew
    rw [hW3]
    clear hother hW3 c1 c2 c4 c5 c6 f4 f5 f6 hK heq
    gi_wp2
    have hg := grownBy_putObj' W3 D (.deferred none)
    have hr : ∀ r, some D = some r → ∃ o : Obj, W3.heap[r]? = some o ∧ o.isCells = false := fun r e => by cases e; exact ⟨_, hK3, rfl⟩
    have Q1 := (boxed_own' hg hr R1).cell
    have Q2 := (boxed_own' hg hr R2).cell
    have Q3 := (boxed_own' hg hr R3).cell
    have ra' := ownsRow_own' hg hr ra
    have rb' := ownsRow_own' hg hr rb
    have rd' := fun p hp => ownsRow_own' hg hr (rd p hp)
    refine ⟨by simp, .inl ⟨_, _, rfl, run_takeDeferred hK3, ?_⟩⟩
    refine ⟨.tuple #[va, vb, .bool true], ?_, va, vb, rfl, ?_, ?_, ?_⟩
    · subst hva
      subst hvb
      simp [results, Tryz.f22, go_sem, Q1, Q2, Q3]
    · rw [← Hmap.out]
      exact IsNums.of_row (by rw [List.map_map]; exact ra')
    · rw [← Hmap2.out]
      exact recs_of_row rb' rd'
    · exact hB3.trans (belowK_b (w := w) (Nat.le_refl _) W3 D _ _ (by omega) hK3 rfl rfl)
  case stop =>
    rintro D c pre W _ _ h _
    exact h.elim

end Go.Proofs.YtncmocmmkbmmjaaGreatDoor

/- seg's Lasts. Own work; no statement. -/
set_option linter.unusedSimpArgs false
set_option linter.unusedVariables false
namespace Go.Proofs.YtncmocmmkbmmjaaGreatDoor
open Go.RowKit Go.Shelf Go.Sort

/-- Is a record at pos whose line does not wait? -/
def lastsS (S : SegD) (pos : Int) : Bool := match S.slots[belowN (poss S) pos]? with
  | none => false
  | some x => decide (x.pos = pos) && decide (x.line < S.D.lasts)

set_option maxHeartbeats 4000000 in
set_option maxRecDepth 100000 in
theorem lasts_not (m : SegM) (pos : Int) (i : Nat) (w : World) (u1 : Hid (Calls Tryz.prog 61 #[.pointer (some ⟨m.p, 0, none⟩), .int .i64 pos] w fun e w' => e = .returned (.tuple #[.int .i64 (i : Int), .bool false]) ∧ ∃ n, w' = w.drewN n)) :
    Calls Tryz.prog 30 #[.pointer (some ⟨m.p, 0, none⟩), .int .i64 pos] w fun e w' => e = .returned (.bool false) ∧ ∃ n, w' = w.drewN n := by
  go_enter Tryz.func30, Tryz.ntmps30
  go_wp2_with fail
  refine u1.out.mono ?_
  rintro e w' ⟨rfl, n1, rfl⟩
  obtain ⟨W1, hW1⟩ : ∃ W1, w.drewN n1 = W1 := ⟨_, rfl⟩
  rw [hW1]
  have HW1 := hide hW1
  clear hW1 u1
  go_wp2_with fail
  refine wp_region_quiet_lit (by kernel_rfl) (by kernel_rfl) ?_
  first | go_big_quiet_step (fail) | quiet_step (fail)
  first | go_big_quiet_step (fail) | quiet_step (fail)
  first | go_big_quiet_step (fail) | quiet_step (fail)
  first | go_big_quiet_step (fail) | quiet_step (fail)
  first | go_big_quiet_step (fail) | quiet_step (fail)
  first | go_big_quiet_step (fail) | quiet_step (fail)
  first | go_big_quiet_step (fail) | quiet_step (fail)
  first | go_big_quiet_step (fail) | quiet_step (fail)
  first | go_big_quiet_step (fail) | quiet_step (fail)
  first | go_big_quiet_step (fail) | quiet_step (fail)
  first | go_big_quiet_step (fail) | quiet_step (fail)
  first | go_big_quiet_step (fail) | quiet_step (fail)
  first | go_big_quiet_step (fail) | quiet_step (fail)
  first | go_big_quiet_step (fail) | quiet_step (fail)
  first | go_big_quiet_step (fail) | quiet_step (fail)
  first | go_big_quiet_step (fail) | quiet_step (fail)
  first | go_big_quiet_step (fail) | quiet_step (fail)
  first | go_big_quiet_step (fail) | quiet_step (fail)
  first | go_big_quiet_step (fail) | quiet_step (fail)
  first | go_big_quiet_step (fail) | quiet_step (fail)
  first | go_big_quiet_step (fail) | quiet_step (fail)
  first | go_big_quiet_step (fail) | quiet_step (fail)
  first | go_big_quiet_step (fail) | quiet_step (fail)
  first | go_big_quiet_step (fail) | quiet_step (fail)
  first | go_big_quiet_step (fail) | quiet_step (fail)
  first | go_big_quiet_step (fail) | quiet_step (fail)
  refine wpQuiet_nil ?_
  intro _ hw'
  obtain ⟨nq, hw''⟩ := hw'
  subst hw''
  go_wp2_with fail
  go_ret
  exact ⟨by first | rfl | (simp; done) | (simp; omega), _, by rw [← HW1.out]; exact World.drewN_drewN _ _ _⟩

set_option maxHeartbeats 4000000 in
set_option maxRecDepth 100000 in
theorem lasts_calls (B : Nat) (m : SegM) (S : SegD) (pos : Int) (w : World) (hd : IsSeg w B m S) :
    Calls Tryz.prog 30 #[.pointer (some ⟨m.p, 0, none⟩), .int .i64 pos] w fun e w' => e = .returned (.bool (lastsS S pos)) ∧ ∃ n, w' = w.drewN n := by
  have hlen := hd.disk.len
  have hfew := hd.ok.few
  have hlast := hd.disk.ok.lasts
  have u1 := hide (find_calls B m S pos w hd)
  have u2 := hide (fun k n => diskLen_calls B m.dp m.dg S.D ((w.drewN k).drewN n) ((hd.disk.drews k).drews n))
  have u3 := hide (fun k n => diskWaits_calls B m.dp m.dg S.D ((w.drewN k).drewN n) ((hd.disk.drews k).drews n))
  obtain ⟨o, ho⟩ : ∃ o, lastsS S pos = o := ⟨_, rfl⟩
  rw [ho]
  have hat := isAt_slot S pos
  unfold lastsS at ho
  by_cases hi : belowN (poss S) pos < S.slots.length
  · rw [List.getElem?_eq_getElem hi] at ho hat
    dsimp only at ho hat
    obtain ⟨a, cap, q, c3, cq, hs⟩ := hd.slot hi
    obtain ⟨vd, -, hq, -⟩ := hs
    obtain ⟨-, -, -, b4, -⟩ := hd.ok.each _ (List.getElem_mem hi)
    have cp := (cells7 hq).2.1
    obtain ⟨_, _, -, -, hpw, -, -⟩ := hd.val
    have c0 := (cells4 hpw).1
    generalize S.slots[belowN (poss S) pos] = x at *
    generalize belowN (poss S) pos = i at *
    rw [hat] at u1
    clear hq hpw hd hat
    unfold ptrV at c0
    obtain ⟨ln, hln⟩ : ∃ n, x.line = n := ⟨_, rfl⟩
    obtain ⟨L, hL⟩ : ∃ n, S.D.lines.length = n := ⟨_, rfl⟩
    obtain ⟨K, hK⟩ : ∃ n, S.D.lasts = n := ⟨_, rfl⟩
    obtain ⟨N, hN⟩ : ∃ n, S.slots.length = n := ⟨_, rfl⟩
    rw [hln] at ho b4 cp
    rw [hL] at u2 u3 hlen hlast hfew
    rw [hK] at ho u3 hlast
    rw [hN] at hfew c3 hi
    clear hln hL hK hN
    have hiN : (i : Int) < (N : Int) := by omega
    by_cases hx : x.pos = pos
    · rw [decide_eq_true hx] at u1 ho
      clear hx
      by_cases hll : ln < K
      · rw [decide_eq_true hll] at ho
        have hll' : (ln : Int) < (L : Int) - ((L : Int) - (K : Int)) := by omega
        subst ho
        go_enter Tryz.func30, Tryz.ntmps30
        go_wp2_with fail
        refine u1.out.mono ?_
        rintro e w' ⟨rfl, n1, rfl⟩
        obtain ⟨W1, hW1⟩ : ∃ W1, w.drewN n1 = W1 := ⟨_, rfl⟩
        have d0 : W1.cell? ⟨m.p, 0, none⟩ = some (.pointer (some ⟨m.dp, 0, none⟩)) := by rw [← hW1]; exact c0
        have d3 : W1.cell? ⟨m.p, 3, none⟩ = some (.slice (some ⟨a, 0, none⟩) N cap) := by rw [← hW1]; exact c3
        have dq : W1.cell? ⟨a, i, none⟩ = some (.pointer (some ⟨q, 0, none⟩)) := by rw [← hW1]; exact cq
        have dp : W1.cell? ⟨q, 1, none⟩ = some (.int .i64 (ln : Int)) := by rw [← hW1]; exact cp
        have v2 := u2.out n1
        have v3 := u3.out n1
        rw [hW1] at v2 v3
        rw [hW1]
        have HW1 := hide hW1
        have V2 := hide v2
        have V3 := hide v3
        clear hW1 v2 v3 c0 c3 cq cp u1 u2 u3
        go_wp2_with fail
        refine wp_region_quiet_lit (by kernel_rfl) (by kernel_rfl) ?_
        first | go_big_quiet_step (fail) | quiet_step (fail)
        first | go_big_quiet_step (fail) | quiet_step (fail)
        first | go_big_quiet_step (fail) | quiet_step (fail)
        first | go_big_quiet_step (fail) | quiet_step (fail)
        first | go_big_quiet_step (fail) | quiet_step (fail)
        first | go_big_quiet_step (fail) | quiet_step (fail)
        first | go_big_quiet_step (fail) | quiet_step (fail)
        first | go_big_quiet_step (fail) | quiet_step (fail)
        first | go_big_quiet_step (fail) | quiet_step (fail)
        first | go_big_quiet_step (fail) | quiet_step (fail)
        first | go_big_quiet_step (fail) | quiet_step (fail)
        first | go_big_quiet_step (fail) | quiet_step (fail)
        first | go_big_quiet_step (fail) | quiet_step (fail)
        first | go_big_quiet_step (fail) | quiet_step (fail)
        first | go_big_quiet_step (fail) | quiet_step (fail)
        first | go_big_quiet_step (fail) | quiet_step (fail)
        first | go_big_quiet_step (exact Calls.quiet_of_same (V2.out _)) | quiet_step (exact Calls.quiet_of_same (V2.out _))
        first | go_big_quiet_step (fail) | quiet_step (fail)
        first | go_big_quiet_step (fail) | quiet_step (fail)
        first | go_big_quiet_step (fail) | quiet_step (fail)
        first | go_big_quiet_step (fail) | quiet_step (fail)
        first | go_big_quiet_step (exact Calls.quiet_of (V3.out _)) | quiet_step (exact Calls.quiet_of (V3.out _))
        first | go_big_quiet_step (fail) | quiet_step (fail)
        first | go_big_quiet_step (fail) | quiet_step (fail)
        first | go_big_quiet_step (fail) | quiet_step (fail)
        first | go_big_quiet_step (fail) | quiet_step (fail)
        refine wpQuiet_nil ?_
        intro _ hw'
        obtain ⟨nq, hw''⟩ := hw'
        subst hw''
        go_wp2_with fail
        go_ret
        exact ⟨by first | rfl | (simp; done) | (simp; omega), _, by rw [← HW1.out]; exact World.drewN_drewN _ _ _⟩
      · rw [decide_eq_false hll] at ho
        have hll' : ¬ (ln : Int) < (L : Int) - ((L : Int) - (K : Int)) := by omega
        subst ho
        go_enter Tryz.func30, Tryz.ntmps30
        go_wp2_with fail
        refine u1.out.mono ?_
        rintro e w' ⟨rfl, n1, rfl⟩
        obtain ⟨W1, hW1⟩ : ∃ W1, w.drewN n1 = W1 := ⟨_, rfl⟩
        have d0 : W1.cell? ⟨m.p, 0, none⟩ = some (.pointer (some ⟨m.dp, 0, none⟩)) := by rw [← hW1]; exact c0
        have d3 : W1.cell? ⟨m.p, 3, none⟩ = some (.slice (some ⟨a, 0, none⟩) N cap) := by rw [← hW1]; exact c3
        have dq : W1.cell? ⟨a, i, none⟩ = some (.pointer (some ⟨q, 0, none⟩)) := by rw [← hW1]; exact cq
        have dp : W1.cell? ⟨q, 1, none⟩ = some (.int .i64 (ln : Int)) := by rw [← hW1]; exact cp
        have v2 := u2.out n1
        have v3 := u3.out n1
        rw [hW1] at v2 v3
        rw [hW1]
        have HW1 := hide hW1
        have V2 := hide v2
        have V3 := hide v3
        clear hW1 v2 v3 c0 c3 cq cp u1 u2 u3
        go_wp2_with fail
        refine wp_region_quiet_lit (by kernel_rfl) (by kernel_rfl) ?_
        first | go_big_quiet_step (fail) | quiet_step (fail)
        first | go_big_quiet_step (fail) | quiet_step (fail)
        first | go_big_quiet_step (fail) | quiet_step (fail)
        first | go_big_quiet_step (fail) | quiet_step (fail)
        first | go_big_quiet_step (fail) | quiet_step (fail)
        first | go_big_quiet_step (fail) | quiet_step (fail)
        first | go_big_quiet_step (fail) | quiet_step (fail)
        first | go_big_quiet_step (fail) | quiet_step (fail)
        first | go_big_quiet_step (fail) | quiet_step (fail)
        first | go_big_quiet_step (fail) | quiet_step (fail)
        first | go_big_quiet_step (fail) | quiet_step (fail)
        first | go_big_quiet_step (fail) | quiet_step (fail)
        first | go_big_quiet_step (fail) | quiet_step (fail)
        first | go_big_quiet_step (fail) | quiet_step (fail)
        first | go_big_quiet_step (fail) | quiet_step (fail)
        first | go_big_quiet_step (fail) | quiet_step (fail)
        first | go_big_quiet_step (exact Calls.quiet_of_same (V2.out _)) | quiet_step (exact Calls.quiet_of_same (V2.out _))
        first | go_big_quiet_step (fail) | quiet_step (fail)
        first | go_big_quiet_step (fail) | quiet_step (fail)
        first | go_big_quiet_step (fail) | quiet_step (fail)
        first | go_big_quiet_step (fail) | quiet_step (fail)
        first | go_big_quiet_step (exact Calls.quiet_of (V3.out _)) | quiet_step (exact Calls.quiet_of (V3.out _))
        first | go_big_quiet_step (fail) | quiet_step (fail)
        first | go_big_quiet_step (fail) | quiet_step (fail)
        first | go_big_quiet_step (fail) | quiet_step (fail)
        first | go_big_quiet_step (fail) | quiet_step (fail)
        refine wpQuiet_nil ?_
        intro _ hw'
        obtain ⟨nq, hw''⟩ := hw'
        subst hw''
        go_wp2_with fail
        go_ret
        exact ⟨by first | rfl | (simp; done) | (simp; omega), _, by rw [← HW1.out]; exact World.drewN_drewN _ _ _⟩
    · rw [decide_eq_false hx] at u1 ho
      rw [Bool.false_and] at ho
      subst ho
      exact lasts_not m pos i w u1
  · rw [List.getElem?_eq_none (by omega)] at ho hat
    dsimp only at ho hat
    rw [hat] at u1
    subst ho
    exact lasts_not m pos _ w u1

end Go.Proofs.YtncmocmmkbmmjaaGreatDoor

/- The laws' R and fresh; a segment's calls with named ends. Own work; no statement. -/
set_option linter.unusedSimpArgs false
set_option linter.unusedVariables false
namespace Go.Proofs.YtncmocmmkbmmjaaGreatDoor
open Go.RowKit Go.Shelf Go.Sort

/-- The record that the laws put. -/
def lawR (site seq : Int) : RecD := ⟨site, seq, [], ⟨#[107]⟩, ⟨#[]⟩⟩

set_option maxHeartbeats 1000000 in
theorem lawR_calls (site seq : Int) (w : World) : Calls Tryz.prog 21 #[.int .i64 site, .int .i64 seq] w fun e w' => e = .returned (.agg #[.int .i64 site, .int .i64 seq, .slice none 0 0, .string ⟨#[107]⟩, .string ⟨#[]⟩]) ∧ Below w.heap.size w w' := by
  go_enter Tryz.func21, Tryz.ntmps21
  go_wp2
  exact bodyPost_ret (v := .agg #[.int .i64 site, .int .i64 seq, .slice none 0 0, .string ⟨#[107]⟩, .string ⟨#[]⟩]) (by simp [results, Tryz.f21, go_sem]) rfl ⟨rfl, (Below.refl _ w).alloc (Nat.le_refl _) _⟩

theorem lawR_is (site seq : Int) (w : World) : IsRec w (.agg #[.int .i64 site, .int .i64 seq, .slice none 0 0, .string ⟨#[107]⟩, .string ⟨#[]⟩]) (lawR site seq) :=
  (show OwnRec 0 w _ (lawR site seq) from ⟨_, rfl, World.ownsRow_nil _ _ _ _⟩).isRec

/-- What a call leaves of a segment, from the world w0 on. -/
def On (w0 : World) (m : SegM) (S : SegD) (w w' : World) : Prop := ∃ dg sg, IsSeg w' w0.heap.size ⟨m.p, m.dp, dg, sg, m.c⟩ S ∧ Below w0.heap.size w0 w' ∧ Touch m.on w w'

theorem Goes.on {w0 w w' : World} {m : SegM} {S S' : SegD} (h : Goes w0.heap.size m S' w w') (hI : IsSeg w w0.heap.size m S) (hb : Below w0.heap.size w0 w) : On w0 m S' w w' := by
  obtain ⟨m', h1, h2, h3, h4, h5, -⟩ := h
  refine ⟨m'.dg, m'.sg, ?_, hb.trans (hI.below hb.size h5), h5⟩
  rw [← h1, ← h2, ← h3]
  exact h4

theorem segPut_on (w0 w : World) (m : SegM) (S S' : SegD) (k pos E : Int) (v : Value) (r : RecD) (hI : IsSeg w w0.heap.size m S) (hb : Below w0.heap.size w0 w) (hv : IsRec w v r) (hl : r.dep.length ≤ 1099511627776) (hks : r.key.size ≤ 1099511627776) (hvs : r.val.size ≤ 1099511627776) (hp : Pow w0)
    (hE : segPutE S k pos r = E) (hS : segPutS S k pos r = S') :
    Calls Tryz.prog 20 #[.pointer (some ⟨m.p, 0, none⟩), .int .i64 k, .int .i64 pos, v] w fun x w' => x = .returned (.int .i64 E) ∧ On w0 m S' w w' := by
  subst hE
  subst hS
  exact (segPut_calls _ m S k pos v r w hI hb.size hv hl hks hvs (hp.below hb)).mono fun x w' ⟨h1, h2⟩ => ⟨h1, h2.on hI hb⟩
theorem segCut_on (w0 w : World) (m : SegM) (S S' : SegD) (pos E : Int) (hI : IsSeg w w0.heap.size m S) (hb : Below w0.heap.size w0 w) (hp : Pow w0) (hE : segCutE S pos = E) (hS : segCutS S pos = S') :
    Calls Tryz.prog 27 #[.pointer (some ⟨m.p, 0, none⟩), .int .i64 pos] w fun x w' => x = .returned (.int .i64 E) ∧ On w0 m S' w w' := by
  subst hE
  subst hS
  exact (segCut_calls _ m S pos w hI hb.size (hp.below hb)).mono fun x w' ⟨h1, h2⟩ => ⟨h1, h2.on hI hb⟩
theorem segTrim_on (w0 w : World) (m : SegM) (S S' : SegD) (pos : Int) (hI : IsSeg w w0.heap.size m S) (hb : Below w0.heap.size w0 w) (hp : Pow w0) (hS : segTrimS S pos = S') :
    Calls Tryz.prog 28 #[.pointer (some ⟨m.p, 0, none⟩), .int .i64 pos] w fun x w' => x = .returned (.tuple #[]) ∧ On w0 m S' w w' := by
  subst hS
  exact (segTrim_calls _ m S pos w hI hb.size (hp.below hb)).mono fun x w' ⟨h1, h2⟩ => ⟨h1, h2.on hI hb⟩
theorem segSeal_on (w0 w : World) (m : SegM) (S S' : SegD) (k n E : Int) (hI : IsSeg w w0.heap.size m S) (hb : Below w0.heap.size w0 w) (hp : Pow w0) (hE : segSealE S k = E) (hn : (if segSealE S k = 0 then endS (segSealS S k) else 0) = n) (hS : segSealS S k = S') :
    Calls Tryz.prog 24 #[.pointer (some ⟨m.p, 0, none⟩), .int .i64 k] w fun x w' => x = .returned (.tuple #[.int .i64 n, .int .i64 E]) ∧ On w0 m S' w w' := by
  subst hn
  subst hE
  subst hS
  exact (segSeal_calls _ m S k w hI hb.size (hp.below hb)).mono fun x w' ⟨h1, h2⟩ => ⟨h1, h2.on hI hb⟩
theorem segSync_on (w0 w : World) (m : SegM) (S : SegD) (hI : IsSeg w w0.heap.size m S) (hb : Below w0.heap.size w0 w) :
    Calls Tryz.prog 31 #[.pointer (some ⟨m.dp, 0, none⟩)] w fun x w' => x = .returned (.tuple #[]) ∧ On w0 m { S with D := ⟨S.D.room, S.D.lines, S.D.lines.length⟩ } w w' :=
  (diskSync_calls _ _ _ _ w hI.disk).mono fun x w' ⟨h1, h2, h3⟩ => by
    obtain ⟨I3, T3, -⟩ := hI.disk_goes h2 h3 hI.ok.few (fun k hk => .inl hk)
    exact ⟨h1, _, _, I3, hb.trans (hI.below hb.size T3), T3⟩
theorem segCrash_on (w0 w : World) (m : SegM) (S : SegD) (keep : Int) (hI : IsSeg w w0.heap.size m S) (hb : Below w0.heap.size w0 w) (hk0 : -9223372036854775808 ≤ keep) (hk1 : keep ≤ 9223372036854775807) :
    Calls Tryz.prog 26 #[.pointer (some ⟨m.dp, 0, none⟩), .int .i64 keep] w fun x w' => x = .returned (.tuple #[]) ∧ IsDisk w' w0.heap.size m.dp m.dg (crashD S.D keep) ∧ Below w0.heap.size w0 w' ∧ Touch (onDisk m.dp m.dg) w w' :=
  (diskCrash_calls _ _ _ _ keep w hI.disk hk0 hk1).mono fun x w' ⟨h1, h2, h3⟩ => ⟨h1, h2, hb.trans (hI.disk.below hb.size h3), h3⟩
theorem segOpen_on (w0 w : World) (p : Nat) (g : Option Nat) (D : DiskD) (S : SegD) (hd : IsDisk w w0.heap.size p g D) (hb : Below w0.heap.size w0 w) (hS : openS D = S) :
    Calls Tryz.prog 12 #[.pointer (some ⟨p, 0, none⟩)] w fun x w' => ∃ q dg sg c, x = .returned (.tuple #[.pointer (some ⟨q, 0, none⟩), .int .i64 0]) ∧ IsSeg w' w0.heap.size ⟨q, p, dg, sg, c⟩ S ∧ Below w0.heap.size w0 w' ∧ Touch (onDisk p g) w w' := by
  subst hS
  refine (segOpen_calls _ p g D w hd hb.size).mono ?_
  rintro x w' ⟨m, rfl, rfl, h1, h2, -⟩
  exact ⟨m.p, m.dg, m.sg, m.c, rfl, h1, hb.trans (hd.below hb.size h2), h2⟩

/-- A block of another type is none of a segment's, or a disk's. -/
theorem IsSeg.not_on {w : World} {B : Nat} {m : SegM} {S : SegD} (h : IsSeg w B m S) {k : Nat} {c : Array Value} {t : TypeId} {f : Nat × Nat} (hk : w.heap[k]? = some (.cells c t f)) (h1 : t ≠ 82) (h2 : t ≠ 106) (h3 : t ≠ 76) (h4 : t ≠ 9) : ¬ m.on k := by
  obtain ⟨v, qs, hv, hl, hp, hr, -⟩ := h.val
  rintro (e | e | e)
  · rw [e, hp] at hk
    simp only [Option.some.injEq, Obj.cells.injEq] at hk
    exact h1 hk.2.1.symm
  · exact row_not hr hk h2 (by rw [hv, e])
  · exact h.disk.off hk h3 h4 k e rfl
theorem IsDisk.not_on {w : World} {B p : Nat} {g : Option Nat} {D : DiskD} (h : IsDisk w B p g D) {k : Nat} {c : Array Value} {t : TypeId} {f : Nat × Nat} (hk : w.heap[k]? = some (.cells c t f)) (h3 : t ≠ 76) (h4 : t ≠ 9) : ¬ onDisk p g k := fun e => h.off hk h3 h4 k e rfl

/-- Get, what it answers named; of the record its Seq alone. -/
theorem segGet_on (w0 w : World) (m : SegM) (S : SegD) (pos E Q : Int) (hI : IsSeg w w0.heap.size m S) (hb : Below w0.heap.size w0 w) (hE : (getS S pos).2 = E) (hQ : (getS S pos).1.seq = Q) :
    Calls Tryz.prog 29 #[.pointer (some ⟨m.p, 0, none⟩), .int .i64 pos] w fun x w' => ∃ s a l c k z, x = .returned (.tuple #[.agg #[.int .i64 s, .int .i64 Q, .slice a l c, .string k, .string z], .int .i64 E]) ∧ IsSeg w' w0.heap.size m S ∧ Below w0.heap.size w0 w' ∧ Below w.heap.size w w' := by
  subst hE
  subst hQ
  refine (segGet_calls _ m S pos w hI).mono ?_
  rintro x w' ⟨v, rfl, ⟨vd, rfl, hr⟩, hb'⟩
  obtain ⟨a, c, rfl⟩ := ownsRow_slice hr
  exact ⟨_, _, _, _, _, _, rfl, hI.keep hb', hb.trans (hb'.mono hb.size), hb'⟩

theorem segLasts_on (w0 w : World) (m : SegM) (S : SegD) (pos : Int) (b : Bool) (hI : IsSeg w w0.heap.size m S) (hb : Below w0.heap.size w0 w) (hE : lastsS S pos = b) :
    Calls Tryz.prog 30 #[.pointer (some ⟨m.p, 0, none⟩), .int .i64 pos] w fun x w' => x = .returned (.bool b) ∧ IsSeg w' w0.heap.size m S ∧ Below w0.heap.size w0 w' ∧ Below w.heap.size w w' := by
  subst hE
  refine (lasts_calls _ m S pos w hI).mono ?_
  rintro x w' ⟨rfl, n, rfl⟩
  exact ⟨rfl, hI.drews n, hb.trans ((drewsB w n).mono hb.size), drewsB w n⟩

/-- Rows of All of a segment. -/
theorem segRows_on (b c most : Nat) (v : Value) (qs : List Nat) (l : List SlotD) (w : World) (hA : IsSlots w b c v qs l) (hd : ∀ p ∈ l, p.r.dep.length ≤ 17592186044416) (hl : l.length ≤ most) (hm : most ≤ 1048576) :
    Calls Tryz.prog 22 #[.func (.func 56) #[] #[.pointer (some ⟨b, 0, none⟩)], .int .i64 (most : Int)] w fun e w' => ∃ va vb, e = .returned (.tuple #[va, vb, .bool true]) ∧ IsNums .i64 w' va (l.map (·.pos)) ∧ IsRecs w' vb (l.map (·.r)) ∧ Below w.heap.size w w' := by
  refine (rowsG_calls 56 _ w.heap.size (l.map fun p => (p.pos, p.r)) most w (Nat.le_refl _) (enters_of Tryz.func56 (by kernel_rfl) rfl) (fun w' hw' => by
    rw [List.length_map]
    exact segAll_stops 4 (by decide) b c v qs l (by omega) hd w w' hA hw') (by simpa using hl) hm).mono ?_
  rintro e w' ⟨va, vb, h1, h2, h3, h4⟩
  exact ⟨va, vb, h1, by simpa [List.map_map, Function.comp_def] using h2, by simpa [List.map_map, Function.comp_def] using h3, h4⟩

def freshS : SegD := ⟨⟨100000, [], 0⟩, 0, 0, []⟩

set_option maxHeartbeats 2000000 in
theorem fresh_calls (w : World) : Calls Tryz.prog 19 #[] w fun e w' => ∃ m, e = .returned (.tuple #[.pointer (some ⟨m.dp, 0, none⟩), .pointer (some ⟨m.p, 0, none⟩)]) ∧ IsSeg w' w.heap.size m freshS ∧ Below w.heap.size w w' := by
  go_enter Tryz.func19, Tryz.ntmps19
  go_wp2_with (first | (go_at_call 8; refine (diskNew_calls 100000 _ (by decide) (by decide)).mono ?_; rintro e w1 ⟨rfl, d1, b1⟩))
  refine (segOpen_on w w1 _ _ _ freshS d1 b1 rfl).mono ?_
  rintro e w2 ⟨q, dg, sg, c, rfl, I2, b2, -⟩
  go_wp2_with fail
  go_ret2
  exact ⟨⟨q, w.heap.size, dg, sg, c⟩, rfl, I2, b2⟩


theorem segPut_err {S : SegD} {k pos : Int} {r : RecD} (h : segPutE S k pos r ≠ 0) : segPutS S k pos r = S := by
  unfold segPutE at h
  unfold segPutS
  repeat' split at h
  · rename_i h1; rw [if_pos h1]
  · rename_i h1 h2; rw [if_neg h1, if_pos h2]
  · rename_i h1 h2 h3; rw [if_neg h1, if_neg h2, if_pos h3]
  · rename_i h1 h2 h3 h4; rw [if_neg h1, if_neg h2, if_neg h3, if_pos h4]
  · rename_i h1 h2 h3 h4 h5
    rw [if_neg h1, if_neg h2, if_neg h3, if_neg h4, if_pos h5]
    unfold addS
    rw [if_neg h]
  · rename_i h1 h2 h3 h4 h5; rw [if_neg h1, if_neg h2, if_neg h3, if_neg h4, if_neg h5]

/-! The disk of a thousand bytes that known plays on. -/
def kS0 : SegD := ⟨⟨1000, [], 0⟩, 0, 0, []⟩
def kS1 : SegD := segPutS kS0 1 5 (lawR 0 1)
def kS2 : SegD := { kS1 with D := ⟨kS1.D.room, kS1.D.lines, kS1.D.lines.length⟩ }
def kS3 : SegD := segPutS kS2 1 7 (lawR 0 2)
def kS4 : SegD := openS (crashD kS3.D 3)
def kS5 : SegD := segSealS kS4 1
def kS6 : SegD := segTrimS kS5 6

theorem k1 : segPutE kS0 1 5 (lawR 0 1) = 0 := by decide +kernel
theorem k2 : segPutE kS2 1 7 (lawR 0 2) = 0 := by decide +kernel
theorem k3 : segPutE kS3 1 5 (lawR 1 1) = 5 := by decide +kernel
theorem k3' : segPutS kS3 1 5 (lawR 1 1) = kS3 := segPut_err (by rw [k3]; decide)
theorem k4 : (getS kS3 5).2 = 0 ∧ (getS kS3 5).1.seq = 1 := by decide +kernel
theorem k5 : (getS kS3 6).2 = 9 ∧ (getS kS3 6).1.seq = 0 := by decide +kernel
theorem k6 : lastsS kS3 5 = true ∧ lastsS kS3 7 = false ∧ lastsS kS3 6 = false := by decide +kernel
theorem k7 : (getS kS4 7).2 = 9 ∧ (getS kS4 7).1.seq = 0 := by decide +kernel
theorem k8 : segSealE kS4 1 = 0 ∧ endS kS5 = 6 := by decide +kernel
theorem k9 : segPutE kS5 1 9 (lawR 0 2) = 7 := by decide +kernel
theorem k9' : segPutS kS5 1 9 (lawR 0 2) = kS5 := segPut_err (by rw [k9]; decide)
theorem k10 : (getS kS6 5).2 = 8 ∧ (getS kS6 5).1.seq = 0 := by decide +kernel
theorem k11 : kS6.slots = [] := List.eq_nil_of_length_eq_zero (by decide +kernel)
theorem k12 : kS6.sealed = 1 := by decide +kernel

end Go.Proofs.YtncmocmmkbmmjaaGreatDoor

/- The laws' known over segments. Own work; no statement. -/
set_option linter.unusedSimpArgs false
set_option linter.unusedVariables false
namespace Go.Proofs.YtncmocmmkbmmjaaGreatDoor
open Go.RowKit Go.Shelf Go.Sort

/-- A disk's pointer is itself. -/
theorem diskPtr_same (a : Addr) (w : World) : (binOp .eql 24 (.pointer (some a)) (.pointer (some a))).run Tryz.prog w = .ok (.bool true) w := by
  obtain ⟨j, hj⟩ : ∃ j, Tryz.prog.info? 76 = some j := Option.isSome_iff_exists.1 (by kernel_rfl)
  exact run_eql_ptr_same w a (te := 76) (by kernel_rfl) hj

set_option maxRecDepth 100000 in
set_option maxHeartbeats 8000000 in
theorem segKnown_calls (w : World) (hp : Pow w) : Calls Tryz.prog 7 #[] w fun e w' => e = .returned (.bool true) ∧ Below w.heap.size w w' := by
  go_enter Tryz.func7, Tryz.ntmps7
  go_wp2_with (first | (go_at_call 8; refine (diskNew_calls 1000 _ (by decide) (by decide)).mono ?_; rintro e w1 ⟨rfl, d1, b1⟩))
  refine (segOpen_on w w1 _ _ _ kS0 d1 b1 rfl).mono ?_
  rintro e w2 ⟨q, dg, sg, c, rfl, I2, b2, -⟩
  clear d1 b1
  go_wp2_with fail
  refine (lawR_calls 0 1 _).mono ?_
  rintro e w3 ⟨rfl, b3⟩
  have I3 := I2.keep b3
  have b3' := b2.trans (b3.mono b2.size)
  clear I2 b2 b3
  go_wp2_with fail
  refine (segPut_on w w3 _ kS0 kS1 1 5 0 _ (lawR 0 1) I3 b3' (lawR_is 0 1 w3) (by decide) (by decide) (by decide) hp k1 rfl).mono ?_
  rintro e w4 ⟨rfl, dg4, sg4, I4, b4, -⟩
  clear I3 b3'
  dsimp only at I4
  go_wp2_with fail
  refine (segSync_on w w4 _ kS1 I4 b4).mono ?_
  rintro e w5 ⟨rfl, dg5, sg5, I5, b5, -⟩
  clear I4 b4
  dsimp only at I5
  go_wp2_with fail
  refine (lawR_calls 0 2 _).mono ?_
  rintro e w6 ⟨rfl, b6⟩
  have I6 : IsSeg w6 _ _ kS2 := I5.keep b6
  have b6' := b5.trans (b6.mono b5.size)
  clear I5 b5 b6
  go_wp2_with fail
  refine (segPut_on w w6 _ kS2 kS3 1 7 0 _ (lawR 0 2) I6 b6' (lawR_is 0 2 w6) (by decide) (by decide) (by decide) hp k2 rfl).mono ?_
  rintro e w7 ⟨rfl, dg7, sg7, I7, b7, -⟩
  clear I6 b6'
  dsimp only at I7
  go_wp2_with fail
  refine (lawR_calls 1 1 _).mono ?_
  rintro e w8 ⟨rfl, b8⟩
  have I8 : IsSeg w8 _ _ kS3 := I7.keep b8
  have b8' := b7.trans (b8.mono b7.size)
  clear I7 b7 b8
  go_wp2_with fail
  refine (segPut_on w w8 _ kS3 kS3 1 5 5 _ (lawR 1 1) I8 b8' (lawR_is 1 1 w8) (by decide) (by decide) (by decide) hp k3 k3').mono ?_
  rintro e w9 ⟨rfl, dg9, sg9, I9, b9, -⟩
  clear I8 b8'
  dsimp only at I9
  go_wp2_with fail
  refine (segGet_on w w9 _ kS3 5 0 1 I9 b9 k4.1 k4.2).mono ?_
  rintro e w10 ⟨site, a10, dl, c10, key, val, rfl, I10, b10, -⟩
  clear I9 b9
  go_wp2_with fail
  obtain ⟨bx, hbx⟩ : ∃ bx, w10.heap.size = bx := ⟨_, rfl⟩
  have x11 := World.alloc_heap_new w10 (.cells #[.int .i64 site, .int .i64 1, .slice a10 dl c10, .string key, .string val] 57)
  have b11 := box_below w10 (.cells #[.int .i64 site, .int .i64 1, .slice a10 dl c10, .string key, .string val] 57)
  rw [hbx] at x11 ⊢
  obtain ⟨w11, hw11⟩ : ∃ w11, w10.alloc (.cells #[.int .i64 site, .int .i64 1, .slice a10 dl c10, .string key, .string val] 57) = w11 := ⟨_, rfl⟩
  rw [hw11] at x11 b11 ⊢
  have I11 := I10.keep b11
  have b11' := b10.trans (b11.mono b10.size)
  clear I10 b10 b11 hw11 hbx
  refine (segGet_on w w11 _ kS3 6 9 0 I11 b11' k5.1 k5.2).mono ?_
  rintro e w12 ⟨site2, a12, dl2, c12, key2, val2, rfl, I12, b12, b12'⟩
  have x12 := keepB x11 b12'
  clear I11 b11' x11 b12'
  go_wp2_with fail
  have b13 := box_below w12 (.cells #[.int .i64 site2, .int .i64 0, .slice a12 dl2 c12, .string key2, .string val2] 57)
  obtain ⟨w13, hw13⟩ : ∃ w13, w12.alloc (.cells #[.int .i64 site2, .int .i64 0, .slice a12 dl2 c12, .string key2, .string val2] 57) = w13 := ⟨_, rfl⟩
  rw [hw13] at b13 ⊢
  have I13 := I12.keep b13
  have x13 := keepB x12 b13
  have b13' := b12.trans (b13.mono b12.size)
  clear I12 b12 x12 b13 hw13
  refine (segLasts_on w w13 _ kS3 5 true I13 b13' k6.1).mono ?_
  rintro e w14 ⟨rfl, I14, b14', c14⟩
  have x14 := keepB x13 c14
  clear I13 b13' x13 c14
  go_wp2_with fail
  refine (segLasts_on w w14 _ kS3 7 false I14 b14' k6.2.1).mono ?_
  rintro e w15 ⟨rfl, I15, b15', c15⟩
  have x15 := keepB x14 c15
  clear I14 b14' x14 c15
  go_wp2_with fail
  refine (segLasts_on w w15 _ kS3 6 false I15 b15' k6.2.2).mono ?_
  rintro e w16 ⟨rfl, I16, b16', c16⟩
  have x16 := keepB x15 c16
  clear I15 b15' x15 c16
  go_wp2_with fail
  refine (segCrash_on w w16 _ kS3 3 I16 b16' (by decide) (by decide)).mono ?_
  rintro e w17 ⟨rfl, d17, b17, T17⟩
  have x17 := (T17.block bx (ltAt x16) (I16.disk.not_on x16 (by decide) (by decide))).trans x16
  clear I16 b16' x16 T17
  dsimp only at d17
  go_wp2_with fail
  refine (segOpen_on w w17 _ _ _ kS4 d17 b17 rfl).mono ?_
  rintro e w18 ⟨q2, dg18, sg18, c18, rfl, I18, b18, T18⟩
  have x18 := (T18.block bx (ltAt x17) (d17.not_on x17 (by decide) (by decide))).trans x17
  clear d17 b17 x17 T18
  go_wp2_with fail
  refine (segGet_on w w18 _ kS4 7 9 0 I18 b18 k7.1 k7.2).mono ?_
  rintro e w19 ⟨site3, a19, dl3, c19, key3, val3, rfl, I19, b19, b19'⟩
  have x19 := keepB x18 b19'
  clear I18 b18 x18 b19'
  go_wp2_with fail
  have b20 := box_below w19 (.cells #[.int .i64 site3, .int .i64 0, .slice a19 dl3 c19, .string key3, .string val3] 57)
  obtain ⟨w20, hw20⟩ : ∃ w20, w19.alloc (.cells #[.int .i64 site3, .int .i64 0, .slice a19 dl3 c19, .string key3, .string val3] 57) = w20 := ⟨_, rfl⟩
  rw [hw20] at b20 ⊢
  have I20 := I19.keep b20
  have x20 := keepB x19 b20
  have b20' := b19.trans (b20.mono b19.size)
  clear I19 b19 x19 b20 hw20
  refine (segSeal_on w w20 _ kS4 kS5 1 6 0 I20 b20' hp k8.1 (by rw [if_pos k8.1]; exact k8.2) rfl).mono ?_
  rintro e w21 ⟨rfl, dg21, sg21, I21, b21, T21⟩
  have x21 := (T21.block bx (ltAt x20) (I20.not_on x20 (by decide) (by decide) (by decide) (by decide))).trans x20
  clear I20 b20' x20 T21
  dsimp only at I21
  go_wp2_with fail
  refine (lawR_calls 0 2 _).mono ?_
  rintro e w22 ⟨rfl, b22⟩
  have I22 := I21.keep b22
  have x22 := keepB x21 b22
  have b22' := b21.trans (b22.mono b21.size)
  clear I21 b21 b22 x21
  go_wp2_with fail
  refine (segPut_on w w22 _ kS5 kS5 1 9 7 _ (lawR 0 2) I22 b22' (lawR_is 0 2 w22) (by decide) (by decide) (by decide) hp k9 k9').mono ?_
  rintro e w23 ⟨rfl, dg23, sg23, I23, b23, T23⟩
  have x23 := (T23.block bx (ltAt x22) (I22.not_on x22 (by decide) (by decide) (by decide) (by decide))).trans x22
  clear I22 b22' x22 T23
  dsimp only at I23
  go_wp2_with fail
  refine (segTrim_on w w23 _ kS5 kS6 6 I23 b23 hp rfl).mono ?_
  rintro e w24 ⟨rfl, dg24, sg24, I24, b24, T24⟩
  have x24 := (T24.block bx (ltAt x23) (I23.not_on x23 (by decide) (by decide) (by decide) (by decide))).trans x23
  clear I23 b23 x23 T24
  dsimp only at I24
  go_wp2_with fail
  refine (segGet_on w w24 _ kS6 5 8 0 I24 b24 k10.1 k10.2).mono ?_
  rintro e w25 ⟨site4, a25, dl4, c25, key4, val4, rfl, I25, b25, b25'⟩
  have x25 := keepB x24 b25'
  clear I24 b24 x24 b25'
  go_wp2_with fail
  have b26 := box_below w25 (.cells #[.int .i64 site4, .int .i64 0, .slice a25 dl4 c25, .string key4, .string val4] 57)
  obtain ⟨w26, hw26⟩ : ∃ w26, w25.alloc (.cells #[.int .i64 site4, .int .i64 0, .slice a25 dl4 c25, .string key4, .string val4] 57) = w26 := ⟨_, rfl⟩
  rw [hw26] at b26 ⊢
  have I26 := I25.keep b26
  have x26 := keepB x25 b26
  have b26' := b25.trans (b26.mono b25.size)
  clear I25 b25 x25 b26 hw26
  refine (segAll_calls _ _ kS6 w26 I26).mono ?_
  rintro e w27 ⟨bb, v27, qs27, rfl, A27, b27⟩
  have I27 := I26.keep b27
  have x27 := keepB x26 b27
  have b27' := b26'.trans (b27.mono b26'.size)
  rw [k11] at A27
  clear I26 x26 b26' b27
  go_wp2_with fail
  refine (segRows_on bb _ 9 v27 qs27 [] w27 A27 (fun p hp => by cases hp) (by decide) (by decide)).mono ?_
  rintro e w28 ⟨va, vb, rfl, ⟨pa, ca, rfl, -, -⟩, ⟨pb, cb, rfl, -⟩, b28⟩
  have I28 := I27.keep b28
  have x28 := keepB x27 b28
  have b28' := b27'.trans (b28.mono b27'.size)
  clear I27 x27 b27' b28 A27
  have y1 := (cells5 x28).2.1
  have us := hide (segSealed_calls _ _ kS6 w28 I28)
  have ud := hide (segDisk_calls _ _ kS6 w28 I28)
  rw [k12] at us
  dsimp only at us ud
  have B28 := hide b28'
  clear I28 x28 b28'
  go_wp2_with fail
  refine us.out.mono ?_
  rintro e w' ⟨rfl, hw'⟩
  subst hw'
  go_wp2_with fail
  refine ud.out.mono ?_
  rintro e w'' ⟨rfl, hw''⟩
  subst hw''
  have hpe := diskPtr_same ⟨w.heap.size, 0, none⟩ w''
  go_wp2_with fail
  go_ret
  exact ⟨rfl, B28.out⟩

end Go.Proofs.YtncmocmmkbmmjaaGreatDoor
