/- strings.Cut at one byte, strings.Clone; rec's split. Own work; no statement. -/
import Derived.Test.YtompaldhnbcikaaR4
set_option linter.unusedSimpArgs false
set_option linter.unusedVariables false
namespace Go.Proofs.Ytompaldhnbcikaa
open Go.RowKit Go.Sort

theorem set1 {W : World} {b j : Nat} {c : Array Value} {t : TypeId} {f : Nat × Nat} (h : W.heap[b]? = some (.cells c t f)) (v : Value) : (W.setCell ⟨b, j, none⟩ v).heap[b]? = some (.cells (c.setIfInBounds j v) t f) := by
  simp [World.setCell, Array.getElem?_modify, h]
theorem cell_at {W : World} {b : Nat} {c : Array Value} {t : TypeId} {f : Nat × Nat} (h : W.heap[b]? = some (.cells c t f)) (j : Nat) : W.cell? ⟨b, j, none⟩ = c[j]? := by
  simp [World.cell?, h]
/-- A struct of five cells, stored whole. -/
def put5 (W : World) (b : Nat) (v0 v1 v2 v3 v4 : Value) : World := ((((W.setCell ⟨b, 0, none⟩ v0).setCell ⟨b, 1, none⟩ v1).setCell ⟨b, 2, none⟩ v2).setCell ⟨b, 3, none⟩ v3).setCell ⟨b, 4, none⟩ v4
theorem put5_heap {W : World} {b : Nat} {x0 x1 x2 x3 x4 : Value} {t : TypeId} {f : Nat × Nat} (h : W.heap[b]? = some (.cells #[x0, x1, x2, x3, x4] t f)) (v0 v1 v2 v3 v4 : Value) :
    (put5 W b v0 v1 v2 v3 v4).heap[b]? = some (.cells #[v0, v1, v2, v3, v4] t f) := by
  have := set1 (j := 4) (set1 (j := 3) (set1 (j := 2) (set1 (j := 1) (set1 (j := 0) h v0) v1) v2) v3) v4
  simpa [put5] using this
theorem put5_below {B b : Nat} {w W : World} (h : Below B w W) (hb : B ≤ b) (v0 v1 v2 v3 v4 : Value) : Below B w (put5 W b v0 v1 v2 v3 v4) :=
  ((((h.setCell (p := ⟨b, 0, none⟩) hb v0).setCell (p := ⟨b, 1, none⟩) hb v1).setCell (p := ⟨b, 2, none⟩) hb v2).setCell (p := ⟨b, 3, none⟩) hb v3).setCell (p := ⟨b, 4, none⟩) hb v4
theorem put5_other {b : Nat} {W : World} (k : Nat) (h : k ≠ b) (v0 v1 v2 v3 v4 : Value) : (put5 W b v0 v1 v2 v3 v4).heap[k]? = W.heap[k]? := by
  unfold put5
  rw [Below.heap_setCell _ ⟨b, 4, none⟩ _ k h, Below.heap_setCell _ ⟨b, 3, none⟩ _ k h, Below.heap_setCell _ ⟨b, 2, none⟩ _ k h, Below.heap_setCell _ ⟨b, 1, none⟩ _ k h, Below.heap_setCell _ ⟨b, 0, none⟩ _ k h]

/-- A text before and behind a byte's first place. -/
def cutL (l : List UInt8) (c : UInt8) : List UInt8 × List UInt8 × Bool :=
  if Lib.indexByte l c = -1 then (l, [], false) else (l.take (Lib.indexByte l c).toNat, l.drop ((Lib.indexByte l c).toNat + 1), true)

theorem indexByte_lt : ∀ (l : List UInt8) (c : UInt8), Lib.indexByte l c < l.length
  | [], _ => by simp [Lib.indexByte]
  | x :: r, c => by
    have := indexByte_lt r c
    simp only [Lib.indexByte, List.length_cons]
    split
    · omega
    · split <;> omega

theorem cutL_length (l : List UInt8) (c : UInt8) : (cutL l c).1.length ≤ l.length ∧ (cutL l c).2.1.length ≤ l.length := by
  unfold cutL
  split <;> simp <;> omega

set_option maxHeartbeats 400000 in
theorem clone_calls (s : ByteArray) (w : World) (hs : s.size ≤ 1099511627776) :
    Calls Try.prog 39 #[.string s] w fun e w' => e = .returned (.string s) ∧ Below w.heap.size w w' := by
  have Ci := hide (Try.stringslite_Clone s w (by omega))
  go_enter Try.func39, Try.ntmps39
  go_wp2_with (go_at_call 47; refine Ci.out.mono ?_; rintro e w' ⟨rfl, hB⟩)
  go_ret
  exact ⟨rfl, hB⟩

/-- The parts of a record's text, at the signs that end them. -/
structure Parts where
  site : List UInt8
  seq : List UInt8
  dep : List UInt8
  key : List UInt8
  val : List UInt8

def splitR (s : List UInt8) : Option Parts :=
  let c1 := cutL s 58
  let c2 := cutL c1.2.1 32
  let e := (Lib.indexByte c2.2.1 93 + 1).toNat
  let r := c2.2.1.drop e
  let c3 := cutL (Lib.trimPrefix r [32]) 61
  if c1.2.2 = true ∧ c2.2.2 = true ∧ e ≠ 0 ∧ Lib.hasPrefix r [32] = true ∧ c3.2.2 = true then some ⟨c1.1, c2.1, c2.2.1.take e, c3.1, c3.2.1⟩ else none

/-- What split hands back: the parts, or nothing at all. -/
def partsV : Option Parts → Value
  | some p => .agg #[.string ⟨p.site.toArray⟩, .string ⟨p.seq.toArray⟩, .string ⟨p.dep.toArray⟩, .string ⟨p.key.toArray⟩, .string ⟨p.val.toArray⟩]
  | none => .agg #[.string ⟨#[]⟩, .string ⟨#[]⟩, .string ⟨#[]⟩, .string ⟨#[]⟩, .string ⟨#[]⟩]

theorem below_drewN (w : World) (n : Nat) : Below w.heap.size w (w.drewN n) := below_draws n

end Go.Proofs.Ytompaldhnbcikaa
