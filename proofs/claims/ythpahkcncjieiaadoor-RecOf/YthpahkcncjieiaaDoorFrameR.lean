/- Records that came in: what they read as. Own work; no statement. -/
import Derived.Test.YthpahkcncjieiaaDoorFrame
import Derived.Test.YthpahkcncjieiaaDoorR12
import Derived.Deep.Fields
import Derived.Lib.SmallJoins
set_option linter.unusedSimpArgs false
set_option linter.unusedVariables false
namespace Go.Proofs.YthpahkcncjieiaaDoor
open Go.ChangeShapes Go.WideShapes Go.ChangeAt Go.RowKit

/-- What a record's numbers and words are, whatever came in. -/
structure RecWf (r : RecD) : Prop where
  site : (Lit.int .i64 r.site).wf = true
  seq : (Lit.int .i64 r.seq).wf = true
  dep : ∀ n ∈ r.dep, (Lit.int .i64 n).wf = true
  key : r.key.size ≤ maxLen
  val : r.val.size ≤ maxLen

theorem wf_i64 {n : Int} (h : (Lit.int .i64 n).wf = true) : -9223372036854775808 ≤ n ∧ n ≤ 9223372036854775807 := by
  have h' : (decide (IntKind.i64.min ≤ n) && decide (n ≤ IntKind.i64.max)) = true := h
  simp only [Bool.and_eq_true, decide_eq_true_eq] at h'
  exact h'

set_option maxRecDepth 100000 in
theorem rec_cells {H : Type} {enc : TypeId × Value → H} {W : World} {base : Nat} {sp : Nat → Bool} {held : Bool} {fuel : Nat} {cs : List Value} {x : DataW H × List MemPlace} (h : DataW.trod enc Tryd.prog W base sp held fuel 30 cs = some x) (hsp : ∀ b, sp b = true) :
    ∃ (r : RecD) (a : Option Addr) (cap : Nat), cs = [.int .i64 r.site, .int .i64 r.seq, .slice a r.dep.length cap, .string r.key, .string r.val] ∧ IsNums .i64 W (.slice a r.dep.length cap) r.dep ∧ RecWf r := by
  obtain ⟨xs, n, _, rfl, hl, hlen, hf⟩ := DataW.trod_struct Tryd.underlying30 h
  have hc : Tryd.prog.cellsOf 30 = 5 := by kernel_rfl
  have h3 : Tryd.prog.cellsOf 3 = 1 := by kernel_rfl
  have h4 : Tryd.prog.cellsOf 28 = 1 := by kernel_rfl
  have h5 : Tryd.prog.cellsOf 9 = 1 := by kernel_rfl
  rw [hc] at hl
  match cs, hl, xs, hlen with
  | [c0, c1, c2, c3, c4], _, [y0, y1, y2, y3, y4], _ =>
    have f0 := hf 0 _ rfl
    have f1 := hf 1 _ rfl
    have f2 := hf 2 _ rfl
    have f3 := hf 3 _ rfl
    have f4 := hf 4 _ rfl
    simp [h3, h4, h5] at f0 f1 f2 f3 f4
    obtain ⟨site, e0, -, w0⟩ := DataW.trod_int Tryd.underlying3 f0
    obtain ⟨seq, e1, -, w1⟩ := DataW.trod_int Tryd.underlying3 f1
    obtain ⟨key, e3, -, w3⟩ := DataW.trod_string Tryd.underlying9 f3
    obtain ⟨val, e4, -, w4⟩ := DataW.trod_string Tryd.underlying9 f4
    obtain ⟨a, len, cap, e2⟩ := Joins.slice_form Tryd.underlying28 f2
    simp at e0 e1 e2 e3 e4
    subst e0 e1 e2 e3 e4
    obtain ⟨dep, hn, wd⟩ := nums_of_open Tryd.underlying28 Tryd.underlying3 h3 f2 hsp
    obtain ⟨a', cap', hv, -, -⟩ := id hn
    simp only [Value.slice.injEq] at hv
    obtain ⟨rfl, rfl, rfl⟩ := hv
    exact ⟨⟨site, seq, dep, key, val⟩, a, cap, rfl, hn, ⟨w0, w1, wd, w3, w4⟩⟩

set_option maxRecDepth 100000 in
theorem rec_open {H : Type} {enc : TypeId × Value → H} {W : World} {base b0 : Nat} {sp : Nat → Bool} {held : Bool} {r : Reach} {v : Value} {d : DataW H} {p : List MemPlace} (hv : Value.okWide Tryd.prog W r b0 30 v) (h : DataW.Trod enc Tryd.prog W base sp held 30 v d p) (hsp : ∀ b, sp b = true) :
    ∃ r : RecD, IsRec W v r ∧ RecWf r := by
  obtain ⟨cs, rfl, hsz⟩ := okWide_struct Tryd.underlying30 hv
  obtain ⟨fuel, hf⟩ := h
  obtain ⟨r, a, cap, hcs, hn, hw⟩ := rec_cells hf hsp
  refine ⟨r, ⟨a, cap, ?_, hn⟩, hw⟩
  have : cs.toList = [.int .i64 r.site, .int .i64 r.seq, .slice a r.dep.length cap, .string r.key, .string r.val] := by simpa [Value.cells] using hcs
  rw [← this]

end Go.Proofs.YthpahkcncjieiaaDoor
