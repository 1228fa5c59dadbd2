/- Own work: the parts FrameU, TK28m of the proof, laid together. -/
import Derived.Test.YtdkpbfigjdmfpaaPartTokenChain13
import Derived.Test.YtdkpbfigjdmfpaaPartTokenChain3
import Derived.Deep.Fields
import Derived.Lib.SmallJoins
import Derived.Deep.Slices
import Derived.Test.YtdkpbfigjdmfpaaPartTokenAdmit8
/- Tokens and slices of drafts that came in: what they read as. Own work; no statement. -/
set_option linter.unusedSimpArgs false
set_option linter.unusedVariables false
namespace Go.Proofs.Ytdkpbfigjdmfpaa
open Go.ChangeShapes Go.WideShapes Go.ChangeAt Go.RowKit Go.Deep

/-- What a draft's numbers and words are, whatever came in. -/
structure DrWf (d : DrD) : Prop where
  ticket : (Lit.int .i64 d.ticket).wf = true
  site : (Lit.int .i64 d.r.site).wf = true
  seq : (Lit.int .i64 d.r.seq).wf = true
  dep : ∀ n ∈ d.r.dep, (Lit.int .i64 n).wf = true
  key : d.r.key.size ≤ maxLen
  val : d.r.val.size ≤ maxLen
structure TokWfI (t : TokD) : Prop where
  own : (Lit.int .i64 t.own).wf = true
  next : (Lit.int .i64 t.next).wf = true
  seen : ∀ n ∈ t.seen, (Lit.int .i64 n).wf = true
  late : ∀ d ∈ t.late, DrWf d

set_option maxRecDepth 100000 in
theorem draft_cells {H : Type} {enc : TypeId × Value → H} {W : World} {base : Nat} {sp : Nat → Bool} {held : Bool} {fuel : Nat} {cs : List Value} {x : DataW H × List MemPlace} (h : DataW.trod enc Try.prog W base sp held fuel 41 cs = some x) (hsp : ∀ b, sp b = true) :
    ∃ (d : DrD) (a : Option Addr) (cap : Nat), cs = [.int .i64 d.ticket, .int .i64 d.r.site, .int .i64 d.r.seq, .slice a d.r.dep.length cap, .string d.r.key, .string d.r.val] ∧ IsNums .i64 W (.slice a d.r.dep.length cap) d.r.dep ∧ DrWf d := by
  obtain ⟨xs, n, _, rfl, hl, hlen, hf⟩ := DataW.trod_struct Try.underlying41 h
  have hc : Try.prog.cellsOf 41 = 6 := by kernel_rfl
  have hcr : Try.prog.cellsOf 39 = 5 := by kernel_rfl
  have h3 : Try.prog.cellsOf 3 = 1 := by kernel_rfl
  have h4 : Try.prog.cellsOf 23 = 1 := by kernel_rfl
  have h5 : Try.prog.cellsOf 9 = 1 := by kernel_rfl
  rw [hc] at hl
  match cs, hl, xs, hlen with
  | [c0, d0, d1, d2, d3, d4], _, [y0, y2], _ =>
    have f0 := hf 0 _ rfl
    have f2 := hf 1 _ rfl
    simp [h3, hcr] at f0 f2
    obtain ⟨n, e1, -, w1⟩ := DataW.trod_int Try.underlying3 f0
    simp at e1
    subst e1
    obtain ⟨xs2, n2, _, -, hl2, hlen2, hf2⟩ := DataW.trod_struct Try.underlying39 f2
    match xs2, hlen2 with
    | [z0, z1, z2, z3, z4], _ =>
      have g0 := hf2 0 _ rfl
      have g1 := hf2 1 _ rfl
      have g2 := hf2 2 _ rfl
      have g3 := hf2 3 _ rfl
      have g4 := hf2 4 _ rfl
      simp [h3, h4, h5] at g0 g1 g2 g3 g4
      obtain ⟨site, e0, -, w2⟩ := DataW.trod_int Try.underlying3 g0
      obtain ⟨seq, e1, -, w3⟩ := DataW.trod_int Try.underlying3 g1
      obtain ⟨key, e3, -, w4⟩ := DataW.trod_string Try.underlying9 g3
      obtain ⟨val, e4, -, w5⟩ := DataW.trod_string Try.underlying9 g4
      obtain ⟨a, len, cap, e2⟩ := Joins.slice_form Try.underlying23 g2
      simp at e0 e1 e2 e3 e4
      subst e0 e1 e2 e3 e4
      obtain ⟨dep, hn, wd⟩ := nums_of_open Try.underlying23 Try.underlying3 h3 g2 hsp
      obtain ⟨a', cap', hv, -, -⟩ := id hn
      simp only [Value.slice.injEq] at hv
      obtain ⟨rfl, rfl, rfl⟩ := hv
      exact ⟨⟨n, ⟨site, seq, dep, key, val⟩⟩, a, cap, rfl, hn, ⟨w1, w2, w3, wd, w4, w5⟩⟩

set_option maxRecDepth 100000 in
theorem drafts_trod {H : Type} {enc : TypeId × Value → H} {W : World} {base : Nat} {sp : Nat → Bool} {held : Bool} {fuel : Nat} {a : Option Addr} {len cap : Nat} {x : DataW H × List MemPlace} (hf : DataW.trod enc Try.prog W base sp held fuel 24 [.slice a len cap] = some x) (hsp : ∀ b, sp b = true) :
    ∃ l : List DrD, IsDrs W (.slice a len cap) l ∧ (∀ d ∈ l, DrWf d) := by
  have hc : Try.prog.cellsOf 41 = 6 := by kernel_rfl
  rcases open_slice Try.underlying24 hf with ⟨hcs, _⟩ | ⟨ad, len', cp, m, n', D, Pl, hcs, _, hlc, _, hm, hx, hat⟩
  · simp at hcs
    obtain ⟨rfl, rfl, rfl⟩ := hcs
    exact ⟨[], IsDrs.nil _, by simp⟩
  · simp at hcs
    obtain ⟨rfl, rfl, rfl⟩ := hcs
    rw [hsp, if_pos rfl] at hm
    rw [hc] at hat
    have each : ∀ i, i < len → ∃ q : DrD × Option Addr × Nat, (W.cells? base (ad.add (i * 6)) 6 = some [.int .i64 q.1.ticket, .int .i64 q.1.r.site, .int .i64 q.1.r.seq, .slice q.2.1 q.1.r.dep.length q.2.2, .string q.1.r.key, .string q.1.r.val]) ∧ IsNums .i64 W (.slice q.2.1 q.1.r.dep.length q.2.2) q.1.r.dep ∧ DrWf q.1 := by
      intro i hi
      obtain ⟨cs', h1, h2⟩ := hat i (by omega)
      obtain ⟨q, a, cap, e, hn, hw⟩ := draft_cells h2 hsp
      exact ⟨(q, a, cap), by rw [h1, e], hn, hw⟩
    have : Inhabited DrD := ⟨⟨0, ⟨0, 0, [], ByteArray.empty, ByteArray.empty⟩⟩⟩
    obtain ⟨q, hq⟩ := choose_lt each
    have hlen : ((List.range len).map fun i => (q i).1).length = len := by simp
    refine ⟨(List.range len).map fun i => (q i).1, ⟨some ad, cap, by rw [hlen], by rw [hlen]; omega, (fun e => by cases e), fun t ht => ?_⟩, fun r hr => ?_⟩
    · rw [hlen] at ht
      obtain ⟨h1, h2, _⟩ := hq t ht
      obtain ⟨_, _, hcell⟩ := World.cells?_some h1
      obtain ⟨b, off, spot⟩ := ad
      have g0 := hcell 0 (by omega)
      have g1 := hcell 1 (by omega)
      have g2 := hcell 2 (by omega)
      have g3 := hcell 3 (by omega)
      have g4 := hcell 4 (by omega)
      have g5 := hcell 5 (by omega)
      rw [add_add] at g0 g1 g2 g3 g4 g5 
      simp only [List.getElem?_cons_zero, List.getElem?_cons_succ, List.getD, Option.getD_some, Nat.add_zero] at g0 g1 g2 g3 g4 g5 
      have hspot : spot = none := by
        obtain ⟨k1, _, _⟩ := hq 0 (by omega)
        obtain ⟨_, _, kcell⟩ := World.cells?_some k1
        have k0 := kcell 0 (by omega)
        rw [add_add] at k0
        simpa [Addr.add] using World.cell?_spot k0
      subst hspot
      rw [Go.WideShapes.add_plain] at g0 g1 g2 g3 g4 g5 
      refine ⟨b, off, rfl, ?_⟩
      rw [List.getElem_map, List.getElem_range]
      exact ⟨(q t).2.1, (q t).2.2, g0, by rw [Nat.add_assoc]; exact g1, by rw [Nat.add_assoc]; exact g2, by rw [Nat.add_assoc]; exact g3, by rw [Nat.add_assoc]; exact g4, by rw [Nat.add_assoc]; exact g5, h2⟩
    · obtain ⟨i, hi, rfl⟩ := List.mem_map.1 hr
      exact (hq i (List.mem_range.1 hi)).2.2

set_option maxRecDepth 100000 in
theorem drafts_open {H : Type} {enc : TypeId × Value → H} {W : World} {base b0 : Nat} {sp : Nat → Bool} {held : Bool} {r : Reach} {v : Value} {d : DataW H} {p : List MemPlace} (hv : Value.okWide Try.prog W r b0 24 v) (h : DataW.Trod enc Try.prog W base sp held 24 v d p) (hsp : ∀ b, sp b = true) :
    ∃ l : List DrD, IsDrs W v l ∧ (∀ d ∈ l, DrWf d) := by
  obtain ⟨a, len, cap, rfl⟩ := okWide_slice Try.underlying24 hv
  obtain ⟨fuel, hf⟩ := h
  exact drafts_trod (by simpa [Value.cells] using hf) hsp

set_option maxRecDepth 100000 in
theorem token_open {H : Type} {enc : TypeId × Value → H} {W : World} {base b0 : Nat} {sp : Nat → Bool} {held : Bool} {r : Reach} {v : Value} {d : DataW H} {p : List MemPlace} (hv : Value.okWide Try.prog W r b0 26 v) (h : DataW.Trod enc Try.prog W base sp held 26 v d p) (hsp : ∀ b, sp b = true) :
    ∃ t : TokD, IsTok W v t ∧ TokWfI t := by
  obtain ⟨cs, rfl, hsz⟩ := okWide_struct Try.underlying26 hv
  obtain ⟨fuel, hf⟩ := h
  obtain ⟨xs, n, _, hcs, hl, hlen, hf⟩ := DataW.trod_struct Try.underlying26 hf
  have hc : Try.prog.cellsOf 26 = 4 := by kernel_rfl
  have h3 : Try.prog.cellsOf 3 = 1 := by kernel_rfl
  have h4 : Try.prog.cellsOf 23 = 1 := by kernel_rfl
  have h5 : Try.prog.cellsOf 24 = 1 := by kernel_rfl
  rw [hc] at hl
  obtain ⟨l, hl'⟩ : ∃ l, (Value.agg cs).cells.toList = l := ⟨_, rfl⟩
  rw [hl'] at hl hf
  match l, hl, xs, hlen with
  | [c0, c1, c2, c3], _, [y0, y1, y2, y3], _ =>
    have f0 := hf 0 _ rfl
    have f1 := hf 1 _ rfl
    have f2 := hf 2 _ rfl
    have f3 := hf 3 _ rfl
    simp [h3, h4, h5] at f0 f1 f2 f3
    obtain ⟨own, e0, -, w0⟩ := DataW.trod_int Try.underlying3 f0
    obtain ⟨next, e1, -, w1⟩ := DataW.trod_int Try.underlying3 f1
    obtain ⟨sa, sl, sc, e2⟩ := Joins.slice_form Try.underlying23 f2
    obtain ⟨la, ll, lc, e3⟩ := Joins.slice_form Try.underlying24 f3
    simp at e0 e1 e2 e3
    subst e0 e1 e2 e3
    obtain ⟨seen, hn, wd⟩ := nums_of_open Try.underlying23 Try.underlying3 h3 f2 hsp
    obtain ⟨late, hd, wl⟩ := drafts_trod f3 hsp
    obtain ⟨a', cap', e, -⟩ := id hn
    simp only [Value.slice.injEq] at e
    obtain ⟨rfl, rfl, rfl⟩ := e
    obtain ⟨a', cap', e⟩ := hd.form
    simp only [Value.slice.injEq] at e
    obtain ⟨rfl, rfl, rfl⟩ := e
    refine ⟨⟨own, next, seen, late⟩, ⟨sa, sc, la, lc, ?_, hn, hd⟩, ⟨w0, w1, wd, wl⟩⟩
    have : cs.toList = [.int .i64 own, .int .i64 next, .slice sa seen.length sc, .slice la late.length lc] := by simpa [Value.cells] using hl'
    rw [← this]

end Go.Proofs.Ytdkpbfigjdmfpaa

/- TokenAdmit, of a token and drafts that came in. Own work; no statement. -/
set_option linter.unusedSimpArgs false
set_option linter.unusedVariables false
namespace Go.Proofs.Ytdkpbfigjdmfpaa
open Go.RowKit

theorem tokAdmit_main (vt : Value) (t : TokD) (vl : Value) (l : List DrD) (w : World) (ht : IsTok w vt t) (_ : TokWfI t) (hl : IsDrs w vl l) (_ : ∀ d ∈ l, DrWf d) :
    Calls Try.prog 3 #[vt, vl] w fun e w' => e = .returned (.bool true) ∧ RowKit.Below w.heap.size w w' := tokAdmit_calls vt vl t l w ht hl

end Go.Proofs.Ytdkpbfigjdmfpaa
