/- strings.Cut at one byte, strings.Clone; rec's split. Own work; no statement. -/
import Derived.Test.YthpahkcncjieiaaDoorR4
set_option linter.unusedSimpArgs false
set_option linter.unusedVariables false
namespace Go.Proofs.YthpahkcncjieiaaDoor
open Go.RowKit Go.Sort

theorem set1 {W : World} {b j : Nat} {c : Array Value} {t : TypeId} {f : Nat × Nat} (h : W.heap[b]? = some (.cells c t f)) (v : Value) : (W.setCell ⟨b, j, none⟩ v).heap[b]? = some (.cells (c.setIfInBounds j v) t f) := by
  simp [World.setCell, Array.getElem?_modify, h]
theorem cell_at {W : World} {b : Nat} {c : Array Value} {t : TypeId} {f : Nat × Nat} (h : W.heap[b]? = some (.cells c t f)) (j : Nat) : W.cell? ⟨b, j, none⟩ = c[j]? := by
  simp [World.cell?, h]
/-- A struct of five cells, stored whole. -/
def put5 (W : World) (b : Nat) (v0 v1 v2 v3 v4 : Value) : World := ((((W.setCell ⟨b, 0, none⟩ v0).setCell ⟨b, 1, none⟩ v1).setCell ⟨b, 2, none⟩ v2).setCell ⟨b, 3, none⟩ v3).setCell ⟨b, 4, none⟩ v4
theorem put5_heap {W : World} {b : Nat} {x0 x1 x2 x3 x4 : Value} {t : TypeId} {f : Nat × Nat} (h : W.heap[b]? = some (.cells #[x0, x1, x2, x3, x4] t f)) (v0 v1 v2 v3 v4 : Value) :
    (put5 W b v0 v1 v2 v3 v4).heap[b]? = some (.cells #[v0, v1, v2, v3, v4] t f) := by
  have := set1 (j := 4) (set1 (j := 3) (set1 (j := 2) (set1 (j := 1) (set1 (j := 0) h v0) v1) v2) v3) v4
  simpa [put5] using this
theorem put5_below {B b : Nat} {w W : World} (h : Below B w W) (hb : B ≤ b) (v0 v1 v2 v3 v4 : Value) : Below B w (put5 W b v0 v1 v2 v3 v4) :=
  ((((h.setCell (p := ⟨b, 0, none⟩) hb v0).setCell (p := ⟨b, 1, none⟩) hb v1).setCell (p := ⟨b, 2, none⟩) hb v2).setCell (p := ⟨b, 3, none⟩) hb v3).setCell (p := ⟨b, 4, none⟩) hb v4
theorem put5_other {b : Nat} {W : World} (k : Nat) (h : k ≠ b) (v0 v1 v2 v3 v4 : Value) : (put5 W b v0 v1 v2 v3 v4).heap[k]? = W.heap[k]? := by
  unfold put5
  rw [Below.heap_setCell _ ⟨b, 4, none⟩ _ k h, Below.heap_setCell _ ⟨b, 3, none⟩ _ k h, Below.heap_setCell _ ⟨b, 2, none⟩ _ k h, Below.heap_setCell _ ⟨b, 1, none⟩ _ k h, Below.heap_setCell _ ⟨b, 0, none⟩ _ k h]

/-- A text before and behind a byte's first place. -/
def cutL (l : List UInt8) (c : UInt8) : List UInt8 × List UInt8 × Bool :=
  if Lib.indexByte l c = -1 then (l, [], false) else (l.take (Lib.indexByte l c).toNat, l.drop ((Lib.indexByte l c).toNat + 1), true)

theorem indexByte_lt : ∀ (l : List UInt8) (c : UInt8), Lib.indexByte l c < l.length
  | [], _ => by simp [Lib.indexByte]
  | x :: r, c => by
    have := indexByte_lt r c
    simp only [Lib.indexByte, List.length_cons]
    split
    · omega
    · split <;> omega

theorem cutL_length (l : List UInt8) (c : UInt8) : (cutL l c).1.length ≤ l.length ∧ (cutL l c).2.1.length ≤ l.length := by
  unfold cutL
  split <;> simp <;> omega

set_option maxHeartbeats 1000000 in
theorem litCut_calls (l : List UInt8) (c : UInt8) (w : World) (hs : l.length ≤ 1099511627776) :
    Calls Tryd.prog 58 #[.string ⟨l.toArray⟩, .string ⟨#[c]⟩] w fun e w' => e = .returned (.tuple #[.string ⟨(cutL l c).1.toArray⟩, .string ⟨(cutL l c).2.1.toArray⟩, .bool (cutL l c).2.2]) ∧ ∃ n, w' = w.drewN n := by
  obtain ⟨p, hp⟩ : ∃ p, cutL l c = p := ⟨_, rfl⟩
  rw [hp]
  unfold cutL at hp
  have ci := Tryd.stringslite_Index_one ⟨l.toArray⟩ c w
  rw [show (⟨l.toArray⟩ : ByteArray).data.toList = l from rfl] at ci
  have hge := Lib.indexByte_ge l c
  have hlt := indexByte_lt l c
  generalize Lib.indexByte l c = i at *
  have Ci := hide ci
  clear ci
  by_cases hi : i = -1
  · rw [if_pos hi] at hp
    subst hi
    subst hp
    clear hge hlt
    go_enter Tryd.func58, Tryd.ntmps58
    go_wp2_with (go_at_call 68; refine Ci.out.mono ?_; rintro e w' ⟨rfl, rfl⟩)
    go_ret3
    exact ⟨rfl, 0, rfl⟩
  · rw [if_neg hi] at hp
    subst hp
    obtain ⟨k, rfl⟩ := Int.eq_ofNat_of_zero_le (show 0 ≤ i by omega)
    have hk : k < l.length := by omega
    clear hge hi
    have hx1 := extract_head l k
    have hx2 := extract_tail l (k + 1) l.length rfl
    rw [Int.toNat_natCast]
    go_enter Tryd.func58, Tryd.ntmps58
    go_wp2_with (go_at_call 68; refine Ci.out.mono ?_; rintro e w' ⟨rfl, rfl⟩)
    go_quiet (fail)
    go_wp2
    go_ret3
    exact ⟨rfl, _, rfl⟩

set_option maxHeartbeats 1000000 in
theorem cut_calls (l : List UInt8) (c : UInt8) (w : World) (hs : l.length ≤ 1099511627776) :
    Calls Tryd.prog 41 #[.string ⟨l.toArray⟩, .string ⟨#[c]⟩] w fun e w' => e = .returned (.tuple #[.string ⟨(cutL l c).1.toArray⟩, .string ⟨(cutL l c).2.1.toArray⟩, .bool (cutL l c).2.2]) ∧ ∃ n, w' = w.drewN n := by
  have Ci := hide (litCut_calls l c w hs)
  generalize cutL l c = p at *
  obtain ⟨p1, p2, p3⟩ := p
  dsimp only at *
  go_enter Tryd.func41, Tryd.ntmps41
  go_wp2_with (go_at_call 58; refine Ci.out.mono ?_; rintro e w' ⟨rfl, n, rfl⟩)
  go_ret3
  exact ⟨rfl, _, rfl⟩

set_option maxHeartbeats 400000 in
theorem clone_calls (s : ByteArray) (w : World) (hs : s.size ≤ 1099511627776) :
    Calls Tryd.prog 24 #[.string s] w fun e w' => e = .returned (.string s) ∧ Below w.heap.size w w' := by
  have Ci := hide (Tryd.stringslite_Clone s w (by omega))
  go_enter Tryd.func24, Tryd.ntmps24
  go_wp2_with (go_at_call 47; refine Ci.out.mono ?_; rintro e w' ⟨rfl, hB⟩)
  go_ret
  exact ⟨rfl, hB⟩

/-- The parts of a record's text, at the signs that end them. -/
structure Parts where
  site : List UInt8
  seq : List UInt8
  dep : List UInt8
  key : List UInt8
  val : List UInt8

def splitR (s : List UInt8) : Option Parts :=
  let c1 := cutL s 58
  let c2 := cutL c1.2.1 32
  let e := (Lib.indexByte c2.2.1 93 + 1).toNat
  let r := c2.2.1.drop e
  let c3 := cutL (Lib.trimPrefix r [32]) 61
  if c1.2.2 = true ∧ c2.2.2 = true ∧ e ≠ 0 ∧ Lib.hasPrefix r [32] = true ∧ c3.2.2 = true then some ⟨c1.1, c2.1, c2.2.1.take e, c3.1, c3.2.1⟩ else none

/-- What split hands back: the parts, or nothing at all. -/
def partsV : Option Parts → Value
  | some p => .agg #[.string ⟨p.site.toArray⟩, .string ⟨p.seq.toArray⟩, .string ⟨p.dep.toArray⟩, .string ⟨p.key.toArray⟩, .string ⟨p.val.toArray⟩]
  | none => .agg #[.string ⟨#[]⟩, .string ⟨#[]⟩, .string ⟨#[]⟩, .string ⟨#[]⟩, .string ⟨#[]⟩]

theorem below_drewN (w : World) (n : Nat) : Below w.heap.size w (w.drewN n) := below_draws n

set_option maxHeartbeats 4000000 in
theorem split_calls (s : List UInt8) (w : World) (hs : s.length ≤ 1099511627776) :
    Calls Tryd.prog 21 #[.string ⟨s.toArray⟩] w fun e w' => e = .returned (.tuple #[partsV (splitR s), .bool (splitR s).isSome]) ∧ Below w.heap.size w w' := by
  obtain ⟨o, ho⟩ : ∃ o, splitR s = o := ⟨_, rfl⟩
  rw [ho]
  unfold splitR at ho
  dsimp only at ho
  have u1 := hide (fun w => cut_calls s 58 w hs)
  have m1 := (cutL_length s 58).2
  generalize cutL s 58 = c1 at *
  obtain ⟨site, r1, b1⟩ := c1
  dsimp only at *
  have u2 := hide (fun w => cut_calls r1 32 w (by omega))
  have m2 := (cutL_length r1 32).2
  generalize cutL r1 32 = c2 at *
  obtain ⟨seq, r2, b2⟩ := c2
  dsimp only at *
  have u3 := hide (fun w => Tryd.strings_IndexByte ⟨r2.toArray⟩ 93 w)
  rw [show (⟨r2.toArray⟩ : ByteArray).data.toList = r2 from rfl, show ((93 : Int).toNat.toUInt8 : UInt8) = 93 from rfl] at u3
  have g3 := Lib.indexByte_ge r2 93
  have l3 := indexByte_lt r2 93
  generalize Lib.indexByte r2 93 = i at *
  obtain ⟨e, he⟩ := Int.eq_ofNat_of_zero_le (show 0 ≤ i + 1 by omega)
  have hle : e ≤ r2.length := by omega
  rw [he, Int.toNat_natCast] at ho
  have i0 : -1 ≤ i := g3
  have i1 : i < 1099511627776 := by omega
  have x1 := extract_head r2 e
  have x2 := extract_tail r2 e r2.length rfl
  have u4 := hide (fun w => Tryd.strings_CutPrefix ⟨(r2.drop e).toArray⟩ ⟨#[32]⟩ w)
  simp only [show (⟨(r2.drop e).toArray⟩ : ByteArray).data.toList = r2.drop e from rfl, show (⟨#[32]⟩ : ByteArray).data.toList = [32] from rfl] at u4
  have m4 := trimPrefix_length (r2.drop e) [32]
  have m5 : (r2.drop e).length ≤ r2.length := by simp
  generalize Lib.trimPrefix (r2.drop e) [32] = r4 at *
  generalize Lib.hasPrefix (r2.drop e) [32] = b4 at *
  have u5 := hide (fun w => cut_calls r4 61 w (by omega))
  generalize cutL r4 61 = c5 at *
  obtain ⟨key, val, b5⟩ := c5
  dsimp only at *
  have leI : (e : Int) ≤ (r2.length : Int) := by omega
  clear g3 l3 m4 m5
  have Ho := hide ho
  clear ho
  cases b1 with
  | false =>
    have e1 : o = none := by rw [← Ho.out, if_neg (by simp)]
    subst e1
    clear Ho
    go_enter Tryd.func21, Tryd.ntmps21
    go_wp2_with (first | (go_at_call_of 41 (Value.string ⟨s.toArray⟩); refine (u1.out _).mono ?_; rintro e w' ⟨rfl, n1, rfl⟩) | (go_at_call_of 41 (Value.string ⟨r1.toArray⟩); refine (u2.out _).mono ?_; rintro e w' ⟨rfl, n2, rfl⟩) | (go_at_call 42; refine (u3.out _).mono ?_; rintro e w' ⟨rfl, rfl⟩) | (go_at_call 43; refine (u4.out _).mono ?_; rintro e w' ⟨rfl, rfl⟩) | (go_at_call_of 41 (Value.string ⟨r4.toArray⟩); refine (u5.out _).mono ?_; rintro e w' ⟨rfl, n5, rfl⟩))
    obtain ⟨W0, hW0⟩ : ∃ W0, (w.alloc (.cells #[.string ⟨#[]⟩, .string ⟨#[]⟩, .string ⟨#[]⟩, .string ⟨#[]⟩, .string ⟨#[]⟩] 57)).drewN (n1 + n2 + n5) = W0 := ⟨_, rfl⟩
    have hb0 : W0.heap[w.heap.size]? = some (.cells #[.string ⟨#[]⟩, .string ⟨#[]⟩, .string ⟨#[]⟩, .string ⟨#[]⟩, .string ⟨#[]⟩] 57 (0, 0)) := by rw [← hW0]; exact World.alloc_heap_new w _
    have hB0 : Below w.heap.size w W0 := by rw [← hW0]; exact (box_below w _).trans (below_draws _)
    rw [hW0]
    obtain ⟨W1, hW1⟩ : ∃ W1, put5 W0 w.heap.size (.string ⟨#[]⟩) (.string ⟨#[]⟩) (.string ⟨#[]⟩) (.string ⟨#[]⟩) (.string ⟨#[]⟩) = W1 := ⟨_, rfl⟩
    have hb1 := put5_heap hb0 (.string ⟨#[]⟩) (.string ⟨#[]⟩) (.string ⟨#[]⟩) (.string ⟨#[]⟩) (.string ⟨#[]⟩)
    have hB1 := put5_below hB0 (Nat.le_refl _) (.string ⟨#[]⟩) (.string ⟨#[]⟩) (.string ⟨#[]⟩) (.string ⟨#[]⟩) (.string ⟨#[]⟩)
    rw [hW1] at hb1 hB1
    unfold put5 at hW1
    rw [hW1]
    have k0 := cell_at hb1 0
    have k1 := cell_at hb1 1
    have k2 := cell_at hb1 2
    have k3 := cell_at hb1 3
    have k4 := cell_at hb1 4
    simp at k0 k1 k2 k3 k4
    exact bodyPost_ret (v := .tuple #[partsV none, .bool false]) (by simp [results, Tryd.f21, go_sem, k0, k1, k2, k3, k4, partsV]) rfl ⟨rfl, hB1⟩
  | true =>
    cases b2 with
    | false =>
      have e1 : o = none := by rw [← Ho.out, if_neg (by simp)]
      subst e1
      clear Ho
      go_enter Tryd.func21, Tryd.ntmps21
      go_wp2_with (first | (go_at_call_of 41 (Value.string ⟨s.toArray⟩); refine (u1.out _).mono ?_; rintro e w' ⟨rfl, n1, rfl⟩) | (go_at_call_of 41 (Value.string ⟨r1.toArray⟩); refine (u2.out _).mono ?_; rintro e w' ⟨rfl, n2, rfl⟩) | (go_at_call 42; refine (u3.out _).mono ?_; rintro e w' ⟨rfl, rfl⟩) | (go_at_call 43; refine (u4.out _).mono ?_; rintro e w' ⟨rfl, rfl⟩) | (go_at_call_of 41 (Value.string ⟨r4.toArray⟩); refine (u5.out _).mono ?_; rintro e w' ⟨rfl, n5, rfl⟩))
      obtain ⟨W0, hW0⟩ : ∃ W0, (w.alloc (.cells #[.string ⟨#[]⟩, .string ⟨#[]⟩, .string ⟨#[]⟩, .string ⟨#[]⟩, .string ⟨#[]⟩] 57)).drewN (n1 + n2 + n5) = W0 := ⟨_, rfl⟩
      have hb0 : W0.heap[w.heap.size]? = some (.cells #[.string ⟨#[]⟩, .string ⟨#[]⟩, .string ⟨#[]⟩, .string ⟨#[]⟩, .string ⟨#[]⟩] 57 (0, 0)) := by rw [← hW0]; exact World.alloc_heap_new w _
      have hB0 : Below w.heap.size w W0 := by rw [← hW0]; exact (box_below w _).trans (below_draws _)
      rw [hW0]
      obtain ⟨W1, hW1⟩ : ∃ W1, put5 W0 w.heap.size (.string ⟨#[]⟩) (.string ⟨#[]⟩) (.string ⟨#[]⟩) (.string ⟨#[]⟩) (.string ⟨#[]⟩) = W1 := ⟨_, rfl⟩
      have hb1 := put5_heap hb0 (.string ⟨#[]⟩) (.string ⟨#[]⟩) (.string ⟨#[]⟩) (.string ⟨#[]⟩) (.string ⟨#[]⟩)
      have hB1 := put5_below hB0 (Nat.le_refl _) (.string ⟨#[]⟩) (.string ⟨#[]⟩) (.string ⟨#[]⟩) (.string ⟨#[]⟩) (.string ⟨#[]⟩)
      rw [hW1] at hb1 hB1
      unfold put5 at hW1
      rw [hW1]
      have k0 := cell_at hb1 0
      have k1 := cell_at hb1 1
      have k2 := cell_at hb1 2
      have k3 := cell_at hb1 3
      have k4 := cell_at hb1 4
      simp at k0 k1 k2 k3 k4
      exact bodyPost_ret (v := .tuple #[partsV none, .bool false]) (by simp [results, Tryd.f21, go_sem, k0, k1, k2, k3, k4, partsV]) rfl ⟨rfl, hB1⟩
    | true =>
      by_cases h0 : e = 0
      · have e1 : o = none := by rw [← Ho.out, if_neg (by simp [h0])]
        subst e1
        have h0' : ((e : Int) == 0) = true := by simp [h0]
        clear Ho h0
        go_enter Tryd.func21, Tryd.ntmps21
        go_wp2_with (first | (go_at_call_of 41 (Value.string ⟨s.toArray⟩); refine (u1.out _).mono ?_; rintro e w' ⟨rfl, n1, rfl⟩) | (go_at_call_of 41 (Value.string ⟨r1.toArray⟩); refine (u2.out _).mono ?_; rintro e w' ⟨rfl, n2, rfl⟩) | (go_at_call 42; refine (u3.out _).mono ?_; rintro e w' ⟨rfl, rfl⟩) | (go_at_call 43; refine (u4.out _).mono ?_; rintro e w' ⟨rfl, rfl⟩) | (go_at_call_of 41 (Value.string ⟨r4.toArray⟩); refine (u5.out _).mono ?_; rintro e w' ⟨rfl, n5, rfl⟩))
        obtain ⟨W0, hW0⟩ : ∃ W0, (w.alloc (.cells #[.string ⟨#[]⟩, .string ⟨#[]⟩, .string ⟨#[]⟩, .string ⟨#[]⟩, .string ⟨#[]⟩] 57)).drewN (n1 + n2 + n5) = W0 := ⟨_, rfl⟩
        have hb0 : W0.heap[w.heap.size]? = some (.cells #[.string ⟨#[]⟩, .string ⟨#[]⟩, .string ⟨#[]⟩, .string ⟨#[]⟩, .string ⟨#[]⟩] 57 (0, 0)) := by rw [← hW0]; exact World.alloc_heap_new w _
        have hB0 : Below w.heap.size w W0 := by rw [← hW0]; exact (box_below w _).trans (below_draws _)
        rw [hW0]
        obtain ⟨W1, hW1⟩ : ∃ W1, put5 W0 w.heap.size (.string ⟨#[]⟩) (.string ⟨#[]⟩) (.string ⟨#[]⟩) (.string ⟨#[]⟩) (.string ⟨#[]⟩) = W1 := ⟨_, rfl⟩
        have hb1 := put5_heap hb0 (.string ⟨#[]⟩) (.string ⟨#[]⟩) (.string ⟨#[]⟩) (.string ⟨#[]⟩) (.string ⟨#[]⟩)
        have hB1 := put5_below hB0 (Nat.le_refl _) (.string ⟨#[]⟩) (.string ⟨#[]⟩) (.string ⟨#[]⟩) (.string ⟨#[]⟩) (.string ⟨#[]⟩)
        rw [hW1] at hb1 hB1
        unfold put5 at hW1
        rw [hW1]
        have k0 := cell_at hb1 0
        have k1 := cell_at hb1 1
        have k2 := cell_at hb1 2
        have k3 := cell_at hb1 3
        have k4 := cell_at hb1 4
        simp at k0 k1 k2 k3 k4
        exact bodyPost_ret (v := .tuple #[partsV none, .bool false]) (by simp [results, Tryd.f21, go_sem, k0, k1, k2, k3, k4, partsV]) rfl ⟨rfl, hB1⟩
      · have h0' : ((e : Int) == 0) = false := by simp; omega
        replace h0 := hide h0
        cases b4 with
        | false =>
          have e1 : o = none := by rw [← Ho.out, if_neg (by simp)]
          subst e1
          clear Ho
          go_enter Tryd.func21, Tryd.ntmps21
          go_wp2_with (first | (go_at_call_of 41 (Value.string ⟨s.toArray⟩); refine (u1.out _).mono ?_; rintro e w' ⟨rfl, n1, rfl⟩) | (go_at_call_of 41 (Value.string ⟨r1.toArray⟩); refine (u2.out _).mono ?_; rintro e w' ⟨rfl, n2, rfl⟩) | (go_at_call 42; refine (u3.out _).mono ?_; rintro e w' ⟨rfl, rfl⟩) | (go_at_call 43; refine (u4.out _).mono ?_; rintro e w' ⟨rfl, rfl⟩) | (go_at_call_of 41 (Value.string ⟨r4.toArray⟩); refine (u5.out _).mono ?_; rintro e w' ⟨rfl, n5, rfl⟩))
          obtain ⟨W0, hW0⟩ : ∃ W0, (w.alloc (.cells #[.string ⟨#[]⟩, .string ⟨#[]⟩, .string ⟨#[]⟩, .string ⟨#[]⟩, .string ⟨#[]⟩] 57)).drewN (n1 + n2 + n5) = W0 := ⟨_, rfl⟩
          have hb0 : W0.heap[w.heap.size]? = some (.cells #[.string ⟨#[]⟩, .string ⟨#[]⟩, .string ⟨#[]⟩, .string ⟨#[]⟩, .string ⟨#[]⟩] 57 (0, 0)) := by rw [← hW0]; exact World.alloc_heap_new w _
          have hB0 : Below w.heap.size w W0 := by rw [← hW0]; exact (box_below w _).trans (below_draws _)
          rw [hW0]
          obtain ⟨W1, hW1⟩ : ∃ W1, put5 W0 w.heap.size (.string ⟨#[]⟩) (.string ⟨#[]⟩) (.string ⟨#[]⟩) (.string ⟨#[]⟩) (.string ⟨#[]⟩) = W1 := ⟨_, rfl⟩
          have hb1 := put5_heap hb0 (.string ⟨#[]⟩) (.string ⟨#[]⟩) (.string ⟨#[]⟩) (.string ⟨#[]⟩) (.string ⟨#[]⟩)
          have hB1 := put5_below hB0 (Nat.le_refl _) (.string ⟨#[]⟩) (.string ⟨#[]⟩) (.string ⟨#[]⟩) (.string ⟨#[]⟩) (.string ⟨#[]⟩)
          rw [hW1] at hb1 hB1
          unfold put5 at hW1
          rw [hW1]
          have k0 := cell_at hb1 0
          have k1 := cell_at hb1 1
          have k2 := cell_at hb1 2
          have k3 := cell_at hb1 3
          have k4 := cell_at hb1 4
          simp at k0 k1 k2 k3 k4
          exact bodyPost_ret (v := .tuple #[partsV none, .bool false]) (by simp [results, Tryd.f21, go_sem, k0, k1, k2, k3, k4, partsV]) rfl ⟨rfl, hB1⟩
        | true =>
          cases b5 with
          | false =>
            have e1 : o = none := by rw [← Ho.out, if_neg (by simp)]
            subst e1
            clear Ho
            go_enter Tryd.func21, Tryd.ntmps21
            go_wp2_with (first | (go_at_call_of 41 (Value.string ⟨s.toArray⟩); refine (u1.out _).mono ?_; rintro e w' ⟨rfl, n1, rfl⟩) | (go_at_call_of 41 (Value.string ⟨r1.toArray⟩); refine (u2.out _).mono ?_; rintro e w' ⟨rfl, n2, rfl⟩) | (go_at_call 42; refine (u3.out _).mono ?_; rintro e w' ⟨rfl, rfl⟩) | (go_at_call 43; refine (u4.out _).mono ?_; rintro e w' ⟨rfl, rfl⟩) | (go_at_call_of 41 (Value.string ⟨r4.toArray⟩); refine (u5.out _).mono ?_; rintro e w' ⟨rfl, n5, rfl⟩))
            obtain ⟨W0, hW0⟩ : ∃ W0, (w.alloc (.cells #[.string ⟨#[]⟩, .string ⟨#[]⟩, .string ⟨#[]⟩, .string ⟨#[]⟩, .string ⟨#[]⟩] 57)).drewN (n1 + n2 + n5) = W0 := ⟨_, rfl⟩
            have hb0 : W0.heap[w.heap.size]? = some (.cells #[.string ⟨#[]⟩, .string ⟨#[]⟩, .string ⟨#[]⟩, .string ⟨#[]⟩, .string ⟨#[]⟩] 57 (0, 0)) := by rw [← hW0]; exact World.alloc_heap_new w _
            have hB0 : Below w.heap.size w W0 := by rw [← hW0]; exact (box_below w _).trans (below_draws _)
            rw [hW0]
            obtain ⟨W1, hW1⟩ : ∃ W1, put5 W0 w.heap.size (.string ⟨#[]⟩) (.string ⟨#[]⟩) (.string ⟨#[]⟩) (.string ⟨#[]⟩) (.string ⟨#[]⟩) = W1 := ⟨_, rfl⟩
            have hb1 := put5_heap hb0 (.string ⟨#[]⟩) (.string ⟨#[]⟩) (.string ⟨#[]⟩) (.string ⟨#[]⟩) (.string ⟨#[]⟩)
            have hB1 := put5_below hB0 (Nat.le_refl _) (.string ⟨#[]⟩) (.string ⟨#[]⟩) (.string ⟨#[]⟩) (.string ⟨#[]⟩) (.string ⟨#[]⟩)
            rw [hW1] at hb1 hB1
            unfold put5 at hW1
            rw [hW1]
            have k0 := cell_at hb1 0
            have k1 := cell_at hb1 1
            have k2 := cell_at hb1 2
            have k3 := cell_at hb1 3
            have k4 := cell_at hb1 4
            simp at k0 k1 k2 k3 k4
            exact bodyPost_ret (v := .tuple #[partsV none, .bool false]) (by simp [results, Tryd.f21, go_sem, k0, k1, k2, k3, k4, partsV]) rfl ⟨rfl, hB1⟩
          | true =>
            have e1 : o = some ⟨site, seq, r2.take e, key, val⟩ := by rw [← Ho.out, if_pos ⟨rfl, rfl, h0.out, rfl, rfl⟩]
            subst e1
            clear Ho
            go_enter Tryd.func21, Tryd.ntmps21
            go_wp2_with (first | (go_at_call_of 41 (Value.string ⟨s.toArray⟩); refine (u1.out _).mono ?_; rintro e w' ⟨rfl, n1, rfl⟩) | (go_at_call_of 41 (Value.string ⟨r1.toArray⟩); refine (u2.out _).mono ?_; rintro e w' ⟨rfl, n2, rfl⟩) | (go_at_call 42; refine (u3.out _).mono ?_; rintro e w' ⟨rfl, rfl⟩) | (go_at_call 43; refine (u4.out _).mono ?_; rintro e w' ⟨rfl, rfl⟩) | (go_at_call_of 41 (Value.string ⟨r4.toArray⟩); refine (u5.out _).mono ?_; rintro e w' ⟨rfl, n5, rfl⟩))
            obtain ⟨W0, hW0⟩ : ∃ W0, (w.alloc (.cells #[.string ⟨#[]⟩, .string ⟨#[]⟩, .string ⟨#[]⟩, .string ⟨#[]⟩, .string ⟨#[]⟩] 57)).drewN (n1 + n2 + n5) = W0 := ⟨_, rfl⟩
            have hb0 : W0.heap[w.heap.size]? = some (.cells #[.string ⟨#[]⟩, .string ⟨#[]⟩, .string ⟨#[]⟩, .string ⟨#[]⟩, .string ⟨#[]⟩] 57 (0, 0)) := by rw [← hW0]; exact World.alloc_heap_new w _
            have hB0 : Below w.heap.size w W0 := by rw [← hW0]; exact (box_below w _).trans (below_draws _)
            rw [hW0]
            obtain ⟨W1, hW1⟩ : ∃ W1, put5 W0 w.heap.size (.string ⟨site.toArray⟩) (.string ⟨seq.toArray⟩) (.string ⟨(r2.take e).toArray⟩) (.string ⟨key.toArray⟩) (.string ⟨val.toArray⟩) = W1 := ⟨_, rfl⟩
            have hb1 := put5_heap hb0 (.string ⟨site.toArray⟩) (.string ⟨seq.toArray⟩) (.string ⟨(r2.take e).toArray⟩) (.string ⟨key.toArray⟩) (.string ⟨val.toArray⟩)
            have hB1 := put5_below hB0 (Nat.le_refl _) (.string ⟨site.toArray⟩) (.string ⟨seq.toArray⟩) (.string ⟨(r2.take e).toArray⟩) (.string ⟨key.toArray⟩) (.string ⟨val.toArray⟩)
            rw [hW1] at hb1 hB1
            unfold put5 at hW1
            rw [hW1]
            have k0 := cell_at hb1 0
            have k1 := cell_at hb1 1
            have k2 := cell_at hb1 2
            have k3 := cell_at hb1 3
            have k4 := cell_at hb1 4
            simp at k0 k1 k2 k3 k4
            exact bodyPost_ret (v := .tuple #[partsV (some ⟨site, seq, r2.take e, key, val⟩), .bool true]) (by simp [results, Tryd.f21, go_sem, k0, k1, k2, k3, k4, partsV]) rfl ⟨rfl, hB1⟩

end Go.Proofs.YthpahkcncjieiaaDoor
