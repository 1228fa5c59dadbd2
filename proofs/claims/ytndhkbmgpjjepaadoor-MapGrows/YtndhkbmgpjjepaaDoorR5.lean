/- strings.Cut at one byte, strings.Clone; rec's split. Own work; no statement. -/
import Derived.Test.YtndhkbmgpjjepaaDoorR4
set_option linter.unusedSimpArgs false
set_option linter.unusedVariables false
namespace Go.Proofs.YtndhkbmgpjjepaaDoor
open Go.RowKit Go.Sort

theorem set1 {W : World} {b j : Nat} {c : Array Value} {t : TypeId} {f : Nat × Nat} (h : W.heap[b]? = some (.cells c t f)) (v : Value) : (W.setCell ⟨b, j, none⟩ v).heap[b]? = some (.cells (c.setIfInBounds j v) t f) := by
  simp [World.setCell, Array.getElem?_modify, h]
theorem cell_at {W : World} {b : Nat} {c : Array Value} {t : TypeId} {f : Nat × Nat} (h : W.heap[b]? = some (.cells c t f)) (j : Nat) : W.cell? ⟨b, j, none⟩ = c[j]? := by
  simp [World.cell?, h]
/-- A struct of five cells, stored whole. -/
def put5 (W : World) (b : Nat) (v0 v1 v2 v3 v4 : Value) : World := ((((W.setCell ⟨b, 0, none⟩ v0).setCell ⟨b, 1, none⟩ v1).setCell ⟨b, 2, none⟩ v2).setCell ⟨b, 3, none⟩ v3).setCell ⟨b, 4, none⟩ v4
theorem put5_heap {W : World} {b : Nat} {x0 x1 x2 x3 x4 : Value} {t : TypeId} {f : Nat × Nat} (h : W.heap[b]? = some (.cells #[x0, x1, x2, x3, x4] t f)) (v0 v1 v2 v3 v4 : Value) :
    (put5 W b v0 v1 v2 v3 v4).heap[b]? = some (.cells #[v0, v1, v2, v3, v4] t f) := by
  have := set1 (j := 4) (set1 (j := 3) (set1 (j := 2) (set1 (j := 1) (set1 (j := 0) h v0) v1) v2) v3) v4
  simpa [put5] using this
theorem put5_below {B b : Nat} {w W : World} (h : Below B w W) (hb : B ≤ b) (v0 v1 v2 v3 v4 : Value) : Below B w (put5 W b v0 v1 v2 v3 v4) :=
  ((((h.setCell (p := ⟨b, 0, none⟩) hb v0).setCell (p := ⟨b, 1, none⟩) hb v1).setCell (p := ⟨b, 2, none⟩) hb v2).setCell (p := ⟨b, 3, none⟩) hb v3).setCell (p := ⟨b, 4, none⟩) hb v4
theorem put5_other {b : Nat} {W : World} (k : Nat) (h : k ≠ b) (v0 v1 v2 v3 v4 : Value) : (put5 W b v0 v1 v2 v3 v4).heap[k]? = W.heap[k]? := by
  unfold put5
  rw [Below.heap_setCell _ ⟨b, 4, none⟩ _ k h, Below.heap_setCell _ ⟨b, 3, none⟩ _ k h, Below.heap_setCell _ ⟨b, 2, none⟩ _ k h, Below.heap_setCell _ ⟨b, 1, none⟩ _ k h, Below.heap_setCell _ ⟨b, 0, none⟩ _ k h]

/-- A text before and behind a byte's first place. -/
def cutL (l : List UInt8) (c : UInt8) : List UInt8 × List UInt8 × Bool :=
  if Lib.indexByte l c = -1 then (l, [], false) else (l.take (Lib.indexByte l c).toNat, l.drop ((Lib.indexByte l c).toNat + 1), true)

theorem indexByte_lt : ∀ (l : List UInt8) (c : UInt8), Lib.indexByte l c < l.length
  | [], _ => by simp [Lib.indexByte]
  | x :: r, c => by
    have := indexByte_lt r c
    simp only [Lib.indexByte, List.length_cons]
    split
    · omega
    · split <;> omega

theorem cutL_length (l : List UInt8) (c : UInt8) : (cutL l c).1.length ≤ l.length ∧ (cutL l c).2.1.length ≤ l.length := by
  unfold cutL
  split <;> simp <;> omega

set_option maxHeartbeats 1000000 in
theorem litCut_calls (l : List UInt8) (c : UInt8) (w : World) (hs : l.length ≤ 1099511627776) :
    Calls Tryd.prog 52 #[.string ⟨l.toArray⟩, .string ⟨#[c]⟩] w fun e w' => e = .returned (.tuple #[.string ⟨(cutL l c).1.toArray⟩, .string ⟨(cutL l c).2.1.toArray⟩, .bool (cutL l c).2.2]) ∧ ∃ n, w' = w.drewN n := by
  obtain ⟨p, hp⟩ : ∃ p, cutL l c = p := ⟨_, rfl⟩
  rw [hp]
  unfold cutL at hp
  have ci := Tryd.stringslite_Index_one ⟨l.toArray⟩ c w
  rw [show (⟨l.toArray⟩ : ByteArray).data.toList = l from rfl] at ci
  have hge := Lib.indexByte_ge l c
  have hlt := indexByte_lt l c
  generalize Lib.indexByte l c = i at *
  have Ci := hide ci
  clear ci
  by_cases hi : i = -1
  · rw [if_pos hi] at hp
    subst hi
    subst hp
    clear hge hlt
    go_enter Tryd.func52, Tryd.ntmps52
    go_wp2_with (go_at_call 60; refine Ci.out.mono ?_; rintro e w' ⟨rfl, rfl⟩)
    go_ret3
    exact ⟨rfl, 0, rfl⟩
  · rw [if_neg hi] at hp
    subst hp
    obtain ⟨k, rfl⟩ := Int.eq_ofNat_of_zero_le (show 0 ≤ i by omega)
    have hk : k < l.length := by omega
    clear hge hi
    have hx1 := extract_head l k
    have hx2 := extract_tail l (k + 1) l.length rfl
    rw [Int.toNat_natCast]
    go_enter Tryd.func52, Tryd.ntmps52
    go_wp2_with (go_at_call 60; refine Ci.out.mono ?_; rintro e w' ⟨rfl, rfl⟩)
    go_quiet (fail)
    go_wp2
    go_ret3
    exact ⟨rfl, _, rfl⟩

set_option maxHeartbeats 1000000 in
theorem cut_calls (l : List UInt8) (c : UInt8) (w : World) (hs : l.length ≤ 1099511627776) :
    Calls Tryd.prog 43 #[.string ⟨l.toArray⟩, .string ⟨#[c]⟩] w fun e w' => e = .returned (.tuple #[.string ⟨(cutL l c).1.toArray⟩, .string ⟨(cutL l c).2.1.toArray⟩, .bool (cutL l c).2.2]) ∧ ∃ n, w' = w.drewN n := by
  have Ci := hide (litCut_calls l c w hs)
  generalize cutL l c = p at *
  obtain ⟨p1, p2, p3⟩ := p
  dsimp only at *
  go_enter Tryd.func43, Tryd.ntmps43
  go_wp2_with (go_at_call 52; refine Ci.out.mono ?_; rintro e w' ⟨rfl, n, rfl⟩)
  go_ret3
  exact ⟨rfl, _, rfl⟩

/-- The parts of a record's text, at the signs that end them. -/
structure Parts where
  site : List UInt8
  seq : List UInt8
  dep : List UInt8
  key : List UInt8
  val : List UInt8

def splitR (s : List UInt8) : Option Parts :=
  let c1 := cutL s 58
  let c2 := cutL c1.2.1 32
  let e := (Lib.indexByte c2.2.1 93 + 1).toNat
  let r := c2.2.1.drop e
  let c3 := cutL (Lib.trimPrefix r [32]) 61
  if c1.2.2 = true ∧ c2.2.2 = true ∧ e ≠ 0 ∧ Lib.hasPrefix r [32] = true ∧ c3.2.2 = true then some ⟨c1.1, c2.1, c2.2.1.take e, c3.1, c3.2.1⟩ else none

/-- What split hands back: the parts, or nothing at all. -/
def partsV : Option Parts → Value
  | some p => .agg #[.string ⟨p.site.toArray⟩, .string ⟨p.seq.toArray⟩, .string ⟨p.dep.toArray⟩, .string ⟨p.key.toArray⟩, .string ⟨p.val.toArray⟩]
  | none => .agg #[.string ⟨#[]⟩, .string ⟨#[]⟩, .string ⟨#[]⟩, .string ⟨#[]⟩, .string ⟨#[]⟩]

theorem below_drewN (w : World) (n : Nat) : Below w.heap.size w (w.drewN n) := below_draws n

end Go.Proofs.YtndhkbmgpjjepaaDoor
