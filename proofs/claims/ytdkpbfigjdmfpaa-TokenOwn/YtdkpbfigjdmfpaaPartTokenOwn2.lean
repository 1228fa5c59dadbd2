/- Own work: the parts FrameT of the proof, laid together. -/
import Derived.Test.YtdkpbfigjdmfpaaPartTokenChain13
import Derived.Test.YtdkpbfigjdmfpaaPartTokenOwn1
import Derived.Deep.Fields
import Derived.Deep.Slices
import Derived.Lib.SmallJoins
/- Slices of bools that came in: what they read as. Own work; no statement. -/
set_option linter.unusedSimpArgs false
set_option linter.unusedVariables false
namespace Go.Proofs.Ytdkpbfigjdmfpaa
open Go.ChangeShapes Go.WideShapes Go.ChangeAt Go.RowKit Go.Deep

set_option maxRecDepth 100000 in
theorem bools_open {H : Type} {enc : TypeId × Value → H} {W : World} {base b0 : Nat} {sp : Nat → Bool} {held : Bool} {r : Reach} {v : Value} {d : DataW H} {p : List MemPlace} (hv : Value.okWide Try.prog W r b0 65 v) (h : DataW.Trod enc Try.prog W base sp held 65 v d p) (hsp : ∀ b, sp b = true) :
    ∃ l : List Bool, IsBools W v l ∧ True := by
  obtain ⟨a, len, cap, rfl⟩ := okWide_slice Try.underlying65 hv
  obtain ⟨fuel, hf⟩ := h
  have hc : Try.prog.cellsOf 4 = 1 := by kernel_rfl
  rcases open_slice Try.underlying65 hf with ⟨hcs, _⟩ | ⟨ad, len', cp, m, n', D, Pl, hcs, _, hlc, _, hm, hx, hat⟩
  · simp [Value.cells] at hcs
    obtain ⟨rfl, rfl, rfl⟩ := hcs
    exact ⟨[], ⟨none, 0, rfl, Nat.le_refl _, fun t ht => absurd ht (by simp)⟩, trivial⟩
  · simp [Value.cells] at hcs
    obtain ⟨rfl, rfl, rfl⟩ := hcs
    rw [hsp, if_pos rfl] at hm
    rw [hc] at hat
    have each : ∀ i, i < len → ∃ q : Bool, (W.cells? base (ad.add (i * 1)) 1 = some [.bool q]) ∧ True := by
      intro i hi
      obtain ⟨cs', h1, h2⟩ := hat i (by omega)
      obtain ⟨q, e, -⟩ := DataW.trod_bool Try.underlying4 h2
      exact ⟨q, by rw [h1, e], trivial⟩
    obtain ⟨q, hq⟩ := choose_lt each
    have hlen : ((List.range len).map fun i => q i).length = len := by simp
    refine ⟨(List.range len).map fun i => q i, ⟨some ad, cap, by rw [hlen], by rw [hlen]; omega, fun t ht => ?_⟩, trivial⟩
    rw [hlen] at ht
    obtain ⟨h1, _⟩ := hq t ht
    obtain ⟨_, _, hcell⟩ := World.cells?_some h1
    obtain ⟨b, off, spot⟩ := ad
    have g0 := hcell 0 (by omega)
    rw [add_add] at g0
    simp only [List.getElem?_cons_zero, List.getD, Option.getD_some, Nat.add_zero, Nat.mul_one] at g0
    have hspot : spot = none := by
      obtain ⟨k1, _⟩ := hq 0 (by omega)
      obtain ⟨_, _, kcell⟩ := World.cells?_some k1
      have k0 := kcell 0 (by omega)
      rw [add_add] at k0
      simpa [Addr.add] using World.cell?_spot k0
    subst hspot
    rw [Go.WideShapes.add_plain] at g0
    refine ⟨b, off, rfl, ?_⟩
    rw [List.getElem_map, List.getElem_range]
    exact g0

theorem tokOwn_main (v : Value) (bs : List Bool) (w : World) (hv : IsBools w v bs) (_ : True) :
    Calls Try.prog 6 #[v] w fun e w' => e = .returned (.bool true) ∧ RowKit.Below w.heap.size w w' := tokOwn_calls v bs w hv

end Go.Proofs.Ytdkpbfigjdmfpaa
