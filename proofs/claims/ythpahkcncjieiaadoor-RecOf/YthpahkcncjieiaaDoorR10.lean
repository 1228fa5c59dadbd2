/- rec's Of: the sequence that it answers. Own work; no statement. -/
import Derived.Test.YthpahkcncjieiaaDoorR9
import Derived.Test.YthpahkcncjieiaaDoorRange2
import Derived.Test.YthpahkcncjieiaaDoorTail
import Derived.Stop.RegionWithIn
import Derived.Outline
set_option linter.unusedSimpArgs false
set_option linter.unusedVariables false
namespace Go.Proofs.YthpahkcncjieiaaDoor
open Go.RowKit Go.Shelf Go.Sort

attribute [local go_sem] Oper.semAt_some

/-- The blocks from lo up to hi are as they were. -/
def KeepsSpan (lo hi : Nat) (W W' : World) : Prop := ∀ k, lo ≤ k → k < hi → W'.heap[k]? = W.heap[k]?
theorem keepsSpan_t {lo hi : Nat} {A B C : World} (h : KeepsSpan lo hi A B) (k : KeepsSpan lo hi B C) : KeepsSpan lo hi A C := fun i h1 h2 => (k i h1 h2).trans (h i h1 h2)
theorem keepsSpan_b {lo hi n : Nat} (hn : hi ≤ n) (W : World) (l : Nat) (o o' : Obj) (hl : n ≤ l) (_ : W.heap[l]? = some o) (_ : o.isCells = false) (_ : o.isWalk = false) : KeepsSpan lo hi W (W.putObj l o') := by
  intro k _ h2
  unfold World.putObj
  simp only [Array.getElem?_setIfInBounds]
  rw [if_neg (by omega)]
theorem KeepsSpan.of_below {lo hi : Nat} {W W' : World} (h : Below W.heap.size W W') (hh : hi ≤ W.heap.size) : KeepsSpan lo hi W W' := fun k _ h2 => h.block k (by omega)

theorem KeepsSpan.size {lo hi : Nat} {W W' : World} (h : KeepsSpan lo hi W W') (hh : hi ≤ W.heap.size) (hl : lo < hi) : hi ≤ W'.heap.size := by
  have e := h (hi - 1) (by omega) (by omega)
  rw [Array.getElem?_eq_getElem (show hi - 1 < W.heap.size by omega)] at e
  have := (Array.getElem?_eq_some_iff.1 e).1
  omega

theorem IsOf.span {W W' : World} {B hi : Nat} {v : Value} {pl : List Pl} (h : IsOf W B v (B + 1) pl) (hhi : hi = W.heap.size) (hk : KeepsSpan B hi W W') : IsOf W' B v (B + 1) pl := by
  subst hhi
  exact ⟨boxed_of_heap h.1 (hk B (Nat.le_refl _) h.1.lt), ownsRow_of_heap h.2.1 fun k e => hk k (by have := (h.2.1.lt k e).1; omega) (h.2.1.lt k e).2,
    fun p hp => ownsRow_of_heap (h.2.2 p hp) fun k e => hk k (by have := ((h.2.2 p hp).lt k e).1; omega) ((h.2.2 p hp).lt k e).2⟩

theorem flat6 : ∀ (pl : List Pl) (k j : Nat) (h : k < pl.length), j < 6 → (pl.flatMap Pl.cells)[k * 6 + j]? = (pl[k]).cells[j]?
  | [], _, _, h, _ => absurd h (by simp)
  | p :: pl, 0, j, _, hj => by
    rw [List.flatMap_cons, List.getElem?_append_left (by simp [Pl.cells]; omega)]
    simp
  | p :: pl, k + 1, j, h, hj => by
    rw [List.flatMap_cons, List.getElem?_append_right (by simp [Pl.cells]; omega)]
    have e : (k + 1) * 6 + j - p.cells.length = k * 6 + j := by simp [Pl.cells]; omega
    rw [e, flat6 pl k j (by simpa using h) hj]
    simp

/-- What the sequence hands over. -/
def encPl (x : Pl) : Array Value := #[.int .i64 x.i, .agg #[.int .i64 x.r.site, .int .i64 x.r.seq, x.vd, .string x.r.key, .string x.r.val]]
/-- From A the sequence has come to B: of what lay there nothing has turned, and x's numbers lie in memory of their own. -/
def GivesPl (x : Pl) (A B : World) : Prop := Below A.heap.size A B ∧ B.ownsRow A.heap.size 3 1 x.vd x.r.dep.length (x.r.dep.map (Value.int .i64)) ∧ x.r.dep.length ≤ 17592186044416

theorem yield_bool {e : Ending} {A B : Prop} (h : (e = .returned (.bool true) ∧ A) ∨ (e = .returned (.bool false) ∧ B)) : ∃ b, e = .returned (.bool b) ∧ ((b = true ∧ A) ∨ (b = false ∧ B)) := by
  rcases h with ⟨rfl, h⟩ | ⟨rfl, h⟩
  · exact ⟨true, rfl, .inl ⟨rfl, h⟩⟩
  · exact ⟨false, rfl, .inr ⟨rfl, h⟩⟩

set_option maxRecDepth 100000 in
set_option maxHeartbeats 4000000 in
theorem of1_in (n : Nat) (hn : 1 ≤ n) (lp B hi : Nat) (v : Value) (pl : List Pl) (hlen : pl.length ≤ 1048576) (hd : ∀ p ∈ pl, p.r.dep.length ≤ 17592186044416) (J Jx : List Pl → World → Prop)
    (hY : ∀ pre x A W, J pre A → GivesPl x A W → pre.length < pl.length → YieldAt Fence.wide (n - 1) Tryd.prog lp (encPl x) W fun e W' =>
      (e = .returned (.bool true) ∧ J (pre ++ [x]) W' ∧ KeepsSpan B hi W W') ∨ (e = .returned (.bool false) ∧ Jx (pre ++ [x]) W'))
    (W : World) (hhi : hi ≤ W.heap.size) (hBh : B < hi) (hA : IsOf W B v (B + 1) pl) (hbl : ∀ W', KeepsSpan B hi W W' → IsOf W' B v (B + 1) pl) (h0 : J [] W) :
    CallsIn Fence.wide n Tryd.prog 17 #[.func (.yield lp) #[] #[], .pointer (some ⟨B, 0, none⟩)] W fun e W' => (∃ v, e = .returned v) ∧
      ((∃ ys, ys.map (fun p => (p.i, p.r)) = pl.map (fun p => (p.i, p.r)) ∧ J ys W') ∨ (∃ pre, pre.map (fun p => (p.i, p.r)) <+: pl.map (fun p => (p.i, p.r)) ∧ Jx pre W')) := by
  refine callsIn_of_wp Tryd.func17 rfl trivial ?_ rfl
  simp only [Tryd.ntmps17, List.size_toArray, List.length_cons, List.length_nil, Nat.reduceAdd, Nat.reduceSub, Array.replicate_succ, Array.replicate_zero, List.push_toArray, List.append_toArray, List.nil_append, List.cons_append]
  obtain ⟨va, vcap, rfl⟩ := ownsRow_slice hA.2.1
  have HY := hide hY
  have Hbl := hide hbl
  have Hd := hide hd
  have hbc := hA.1.cell
  clear hY hbl hd hA
  gi_wp2
  clear hbc
  gi_loopw [7] (fun i wr => ∃ (k : Nat) (pre : List Pl), k ≤ pl.length ∧ i = .int .i64 (k : Int) ∧ pre.map (fun p => (p.i, p.r)) = (pl.take k).map (fun p => (p.i, p.r)) ∧ J pre wr ∧ KeepsSpan B hi W wr) (fun i _ => pl.length - (intOf i).toNat)
  case atStart => exact ⟨0, [], Nat.zero_le _, rfl, rfl, h0, fun _ _ _ => rfl⟩
  case round =>
    obtain ⟨k, pre, hk, rfl, hpre, hJs, hks⟩ := hrel
    have hsz := hks.size hhi hBh
    by_cases hlt : k < pl.length
    · have hltI : (k : Int) < (pl.length : Int) := by omega
      have hofr := Hbl.out wr hks
      rcases hofr.2.1.2 with ⟨e1, e2⟩ | ⟨g, cap', cur, e1, hgb, hg, hnc, hcm, hcs, htk⟩
      · omega
      · have hcell : ∀ j, j < 6 → wr.cell? ⟨g, k * 6 + j, none⟩ = (pl[k]).cells[j]? := fun j hj => by
          rw [e1] at hofr
          rw [hofr.2.1.cellAt (k * 6 + j) (by omega)]
          exact flat6 pl k j hlt hj
        have hmem := List.getElem_mem hlt
        have hdep := hofr.2.2 _ hmem
        have hdl := Hd.out _ hmem
        have htk2 : (pl.take (k + 1)).map (fun p => (p.i, p.r)) = (pl.take k).map (fun p => (p.i, p.r)) ++ [((pl[k]).i, (pl[k]).r)] := by rw [List.take_succ_eq_append_getElem hlt, List.map_append]; rfl
        obtain ⟨p, hp⟩ : ∃ p, pl[k] = p := ⟨_, rfl⟩
        rw [hp] at hcell hdep hdl htk2
        obtain ⟨pi, ⟨site, seq, dep, key, val⟩, vd⟩ := p
        dsimp only at *
        obtain ⟨da, dcap, rfl⟩ := ownsRow_slice hdep
        have c0 := hcell 0 (by omega)
        have c1 := hcell 1 (by omega)
        have c2 := hcell 2 (by omega)
        have c3 := hcell 3 (by omega)
        have c4 := hcell 4 (by omega)
        have c5 := hcell 5 (by omega)
        simp only [Pl.cells, List.getElem?_cons_zero, List.getElem?_cons_succ, Nat.add_zero] at c0 c1 c2 c3 c4 c5
        have hglt : g < wr.heap.size := (Array.getElem?_eq_some_iff.1 hg).1
        obtain ⟨rfl, rfl⟩ : va = some ⟨g, 0, none⟩ ∧ vcap = cap' := by simp at e1; exact e1
        have HB1 : Below wr.heap.size wr (wr.alloc (.cells #[.int .i64 pi, .int .i64 site, .int .i64 seq, .slice da dep.length dcap, .string key, .string val] 51)).drew := (box_below wr _).drew
        have C := hide (copied_calls (.agg #[.int .i64 site, .int .i64 seq, .slice da dep.length dcap, .string key, .string val]) ⟨site, seq, dep, key, val⟩ (wr.alloc (.cells #[.int .i64 pi, .int .i64 site, .int .i64 seq, .slice da dep.length dcap, .string key, .string val] 51)).drew ⟨da, dcap, rfl, (IsNums.of_row hdep).below HB1⟩ hdl)
        have y0 : (wr.alloc (.cells #[.int .i64 pi, .int .i64 site, .int .i64 seq, .slice da dep.length dcap, .string key, .string val] 51)).drew.heap[wr.heap.size]? = some (.cells #[.int .i64 pi, .int .i64 site, .int .i64 seq, .slice da dep.length dcap, .string key, .string val] 51 (0, 0)) := World.alloc_heap_new wr _
        have Y0 := hide y0
        have hs1 := HB1.size
        have hplen : pre.length = k := by have := congrArg List.length hpre; simpa [Nat.min_eq_left hk] using this
        have HB2 := hide HB1
        have Htk2 := hide htk2
        have Hpre := hide hpre
        have Hpl := hide hplen
        clear hofr hg hnc hcm hcs htk hcell hdep hp y0 HB1 htk2 hpre hplen e1
        gi_wp2
        gi_region_with (first | (refine ⟨trivial, ?_⟩; gi_at_call 16; refine ((callsIn_wide (n := _)).2 C.out).mono ?_; rintro e w3 ⟨v', rfl, hrecw, hb⟩; obtain ⟨vd', rfl, hvd'⟩ := hrecw; obtain ⟨va', vcap', rfl⟩ := ownsRow_slice hvd'; have hB3 := HB2.out.trans (hb.mono HB2.out.size); obtain ⟨fn, tmps, assign, body, hy, hR⟩ := HY.out pre ⟨pi, ⟨site, seq, dep, key, val⟩, .slice va' dep.length vcap'⟩ wr w3 hJs ⟨hB3, ownsRow_low hvd' hs1, hdl⟩ (by have := Hpl.out; omega); dsimp only [encPl] at hy; have d0 := cell_at (keepB Y0.out hb) 0; simp only [List.getElem?_toArray, List.getElem?_cons_zero] at d0) | (refine hR.mono ?_; rintro e W4 hW4; obtain ⟨b, rfl, hb4⟩ := yield_bool hW4))
        all_goals
          rcases hb4 with ⟨rfl, hJ4, hk4⟩ | ⟨rfl, hJx4⟩
          · gi_wp2
            exact ⟨⟨k + 1, _, by omega, by go_num, by rw [List.map_append, Hpre.out, Htk2.out]; rfl, hJ4, keepsSpan_t hks (keepsSpan_t (KeepsSpan.of_below hB3 hsz) hk4)⟩, by simp [intOf]; omega⟩
          · gi_wp2
            refine bodyPost_ret (results_none rfl _ _ _) rfl ?_
            refine ⟨⟨_, rfl⟩, .inr ⟨_, ?_, hJx4⟩⟩
            rw [List.map_append, Hpre.out]
            refine ⟨(pl.drop (k + 1)).map (fun p => (p.i, p.r)), ?_⟩
            have e := Htk2.out
            simp only [List.map_cons, List.map_nil]
            rw [← e, ← List.map_append, List.take_append_drop]
    · obtain rfl : k = pl.length := by omega
      gi_wp2
      go_end0
      exact ⟨⟨_, rfl⟩, .inl ⟨pre, by rw [hpre, List.take_of_length_le (Nat.le_refl _)], hJs⟩⟩

/-- What Of answers: a sequence that goes over the records of a site, in order, with their places, as long as it is asked. -/
theorem of_stops (n : Nat) (hn : 1 ≤ n) (B : Nat) (v : Value) (pl : List Pl) (hlen : pl.length ≤ 1048576) (hd : ∀ p ∈ pl, p.r.dep.length ≤ 17592186044416) (w0 w : World) (hA : IsOf w0 B v (B + 1) pl) (hw : Below w0.heap.size w0 w) :
    SeqR n Tryd.prog 17 #[.pointer (some ⟨B, 0, none⟩)] encPl (KeepsSpan B w0.heap.size) GivesPl (fun ys => ys.map (fun p => (p.i, p.r)) = pl.map (fun p => (p.i, p.r)))
      (fun pre => pre.map (fun p => (p.i, p.r)) <+: pl.map (fun p => (p.i, p.r))) pl.length w := fun lp J Jx W hW hY h0 =>
  have hW0 : Below w0.heap.size w0 W := hw.trans (hW.mono hw.size)
  of1_in n hn lp B w0.heap.size v pl hlen hd J Jx hY W hW0.size hA.1.lt (hA.below hW0)
    (fun W' hk => hA.span rfl (keepsSpan_t (fun k _ h2 => hW0.block k h2) hk)) h0

end Go.Proofs.YthpahkcncjieiaaDoor
