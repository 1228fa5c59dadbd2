/- A slice of records that came in: what it reads as. Own work; no statement. -/
import Derived.Test.YthpahkcncjieiaaDoorFrameR
import Derived.Deep.Slices
import Derived.SizedLaws
set_option linter.unusedSimpArgs false
set_option linter.unusedVariables false
namespace Go.Proofs.YthpahkcncjieiaaDoor
open Go.ChangeShapes Go.WideShapes Go.ChangeAt Go.RowKit Go.Deep

set_option maxRecDepth 100000 in
/-- A record that came in, with its numbers' weight. -/
theorem rec_cells_sized {H : Type} {enc : TypeId × Value → H} {W : World} {base : Nat} {sp : Nat → Bool} {held : Bool} {fuel : Nat} {cs : List Value} {x : DataW H × List MemPlace} (h : DataW.trod enc Tryd.prog W base sp held fuel 30 cs = some x) (hsp : ∀ b, sp b = true) (hz : ∀ n ∈ x.1.weights Tryd.prog 30, n ≤ reachBytes) :
    ∃ (r : RecD) (a : Option Addr) (cap : Nat), cs = [.int .i64 r.site, .int .i64 r.seq, .slice a r.dep.length cap, .string r.key, .string r.val] ∧ IsNums .i64 W (.slice a r.dep.length cap) r.dep ∧ RecWf r ∧ r.dep.length ≤ 17592186044416 := by
  obtain ⟨r, a, cap, rfl, hn, hw⟩ := rec_cells h hsp
  refine ⟨r, a, cap, rfl, hn, hw, ?_⟩
  obtain ⟨xs, n, _, rfl, hl, hlen, hf⟩ := DataW.trod_struct Tryd.underlying30 h
  have h4 : Tryd.prog.cellsOf 28 = 1 := by kernel_rfl
  have hbt : Tryd.prog.bytesOf 3 = 8 := by kernel_rfl
  match xs, hlen with
  | [y0, y1, y2, y3, y4], _ =>
    have f2 := hf 2 _ rfl
    simp [h4] at f2
    rcases open_slice Tryd.underlying28 f2 with ⟨hcs, _⟩ | ⟨ad, len, cp, m, n', D, Pl, hcs, _, hlc, _, hm, hy, _⟩
    · simp at hcs
      obtain ⟨_, e2, _⟩ := hcs
      rw [e2]
      exact Nat.zero_le _
    · simp at hcs
      obtain ⟨_, e2, e3⟩ := hcs
      have := hz ((len + (m - len)) * 8) (by
        simp only [List.map_cons, List.map_nil]
        rw [hy]
        simp only [DataW.weights, Tryd.underlying30, Tryd.underlying28, hbt, DataW.weightsEach, List.map_cons, List.map_nil, List.length_map, List.length_range]
        simp)
      unfold reachBytes at this
      omega

theorem weightsAll_mem {H : Type} {P : Program} {e : TypeId} {n : Nat} : ∀ {l : List (DataW H)} {d : DataW H}, d ∈ l → n ∈ d.weights P e → n ∈ DataW.weightsAll P e l
  | d0 :: l, d, hd, hn => by
    simp only [DataW.weightsAll, List.mem_append]
    rcases List.mem_cons.1 hd with rfl | hd
    · exact .inl hn
    · exact .inr (weightsAll_mem hd hn)

set_option maxRecDepth 100000 in
theorem recs_open {H : Type} {enc : TypeId × Value → H} {W : World} {base b0 : Nat} {sp : Nat → Bool} {held : Bool} {r : Reach} {v : Value} {d : DataW H} {p : List MemPlace} (hv : Value.okWide Tryd.prog W r b0 22 v) (h : DataW.Trod enc Tryd.prog W base sp held 22 v d p) (hsp : ∀ b, sp b = true) (hz : ∀ n ∈ d.weights Tryd.prog 22, n ≤ reachBytes) :
    ∃ l : List RecD, IsRecs W v l ∧ (∀ r ∈ l, RecWf r ∧ r.dep.length ≤ 17592186044416) := by
  obtain ⟨a, len, cap, rfl⟩ := okWide_slice Tryd.underlying22 hv
  obtain ⟨fuel, hf⟩ := h
  have hc : Tryd.prog.cellsOf 30 = 5 := by kernel_rfl
  rcases open_slice Tryd.underlying22 hf with ⟨hcs, _⟩ | ⟨ad, len', cp, m, n', D, Pl, hcs, _, hlc, _, hm, hx, hat⟩
  · simp [Value.cells] at hcs
    obtain ⟨rfl, rfl, rfl⟩ := hcs
    exact ⟨[], ⟨none, 0, rfl, fun t ht => absurd ht (by simp)⟩, by simp⟩
  · simp [Value.cells] at hcs
    obtain ⟨rfl, rfl, rfl⟩ := hcs
    rw [hsp, if_pos rfl] at hm
    rw [hc] at hat
    have each : ∀ i, i < len → ∃ q : RecD × Option Addr × Nat, (W.cells? base (ad.add (i * 5)) 5 = some [.int .i64 q.1.site, .int .i64 q.1.seq, .slice q.2.1 q.1.dep.length q.2.2, .string q.1.key, .string q.1.val]) ∧ IsNums .i64 W (.slice q.2.1 q.1.dep.length q.2.2) q.1.dep ∧ RecWf q.1 ∧ q.1.dep.length ≤ 17592186044416 := by
      intro i hi
      obtain ⟨cs', h1, h2⟩ := hat i (by omega)
      obtain ⟨r, a, cap, rfl, hn, hw, hd⟩ := rec_cells_sized h2 hsp (fun n hn => hz n (by
        simp only [Prod.mk.injEq] at hx
        rw [hx.1]
        simp only [DataW.weights, Tryd.underlying22, List.mem_cons, List.mem_append]
        exact .inr (.inl (weightsAll_mem (List.mem_map.2 ⟨i, List.mem_range.2 hi, rfl⟩) hn))))
      exact ⟨(r, a, cap), h1, hn, hw, hd⟩
    have : Inhabited RecD := ⟨zeroR⟩
    obtain ⟨q, hq⟩ := choose_lt each
    have hlen : ((List.range len).map fun i => (q i).1).length = len := by simp
    refine ⟨(List.range len).map fun i => (q i).1, ⟨some ad, cap, by rw [hlen], fun t ht => ?_⟩, fun r hr => ?_⟩
    · rw [hlen] at ht
      obtain ⟨h1, h2, _⟩ := hq t ht
      obtain ⟨_, _, hcell⟩ := World.cells?_some h1
      obtain ⟨b, off, spot⟩ := ad
      have g0 := hcell 0 (by omega)
      have g1 := hcell 1 (by omega)
      have g2 := hcell 2 (by omega)
      have g3 := hcell 3 (by omega)
      have g4 := hcell 4 (by omega)
      rw [add_add] at g0 g1 g2 g3 g4
      simp only [List.getElem?_cons_zero, List.getElem?_cons_succ, List.getD, Option.getD_some, Nat.add_zero] at g0 g1 g2 g3 g4
      have hspot : spot = none := by
        obtain ⟨k1, _, _⟩ := hq 0 (by omega)
        obtain ⟨_, _, kcell⟩ := World.cells?_some k1
        have k0 := kcell 0 (by omega)
        rw [add_add] at k0
        simpa [Addr.add] using World.cell?_spot k0
      subst hspot
      rw [Go.WideShapes.add_plain] at g0 g1 g2 g3 g4
      refine ⟨b, off, rfl, ?_⟩
      rw [List.getElem_map, List.getElem_range]
      exact ⟨(q t).2.1, (q t).2.2, g0, by rw [Nat.add_assoc]; exact g1, by rw [Nat.add_assoc]; exact g2, by rw [Nat.add_assoc]; exact g3, by rw [Nat.add_assoc]; exact g4, h2⟩
    · obtain ⟨i, hi, rfl⟩ := List.mem_map.1 hr
      exact (hq i (List.mem_range.1 hi)).2.2

end Go.Proofs.YthpahkcncjieiaaDoor
