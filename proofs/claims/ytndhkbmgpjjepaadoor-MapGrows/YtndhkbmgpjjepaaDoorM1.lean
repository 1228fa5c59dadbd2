/- Maps in memory: what they read as; stripe's Check, Find. Own work; no statement. -/
import Derived.Test.YtndhkbmgpjjepaaDoorR7
import Derived.Test.YtndhkbmgpjjepaaDoorD1
set_option linter.unusedSimpArgs false
set_option linter.unusedVariables false
namespace Go.Proofs.YtndhkbmgpjjepaaDoor
open Go.RowKit

/-- A map: its epochs' From and N. -/
abbrev MapD := List (Int × Int)
/-- At the block b from o on there lies a span. -/
def SpanAt (w : World) (b o : Nat) (x : Int × Int) : Prop := w.cell? ⟨b, o, none⟩ = some (.int .i64 x.1) ∧ w.cell? ⟨b, o + 1, none⟩ = some (.int .i64 x.2)
theorem SpanAt.below {w w' : World} {b o : Nat} {x : Int × Int} (h : SpanAt w b o x) (hb : Below w.heap.size w w') : SpanAt w' b o x := by
  have hlt : b < w.heap.size := World.block_lt_of_cell? w _ h.1
  exact ⟨(hb.cell (p := ⟨b, o, none⟩) hlt).trans h.1, (hb.cell (p := ⟨b, o + 1, none⟩) hlt).trans h.2⟩
/-- In the world w the slice v reads as the map m. -/
def IsMap (w : World) (v : Value) (m : MapD) : Prop := ∃ a cap, v = .slice a m.length cap ∧ (a = none → cap = 0) ∧ ∀ t (h : t < m.length), ∃ b o, a = some ⟨b, o, none⟩ ∧ SpanAt w b (o + t * 2) m[t]
theorem IsMap.below {w w' : World} {v : Value} {m : MapD} (h : IsMap w v m) (hb : Below w.heap.size w w') : IsMap w' v m := by
  obtain ⟨a, cap, rfl, h0, h⟩ := h
  exact ⟨a, cap, rfl, h0, fun t ht => let ⟨b, o, e, hr⟩ := h t ht; ⟨b, o, e, hr.below hb⟩⟩
theorem IsMap.nil (w : World) : IsMap w (.slice none 0 0) [] := ⟨none, 0, rfl, fun _ => rfl, fun t h => absurd h (Nat.not_lt_zero t)⟩

/-- Check, from the k-th span on, the one ahead's From being a. -/
def okFrom (a : Int) : MapD → Bool
  | [] => true
  | x :: r => decide (a ≤ x.1) && decide (1 ≤ x.2) && decide (x.2 ≤ 8) && okFrom x.1 r
/-- May it be a map? -/
def okMap (m : MapD) : Bool := match m with
  | [] => false
  | x :: _ => decide (x.1 = 0) && okFrom 0 m
/-- Check's number. -/
def checkM (m : MapD) : Int := if okMap m then 0 else 1

theorem okFrom_cons (a : Int) (x : Int × Int) (r : MapD) : okFrom a (x :: r) = (decide (a ≤ x.1) && decide (1 ≤ x.2) && decide (x.2 ≤ 8) && okFrom x.1 r) := rfl
theorem okFrom_step {m : MapD} {k : Nat} (h : k < m.length) (a : Int) : okFrom a (m.drop k) = (decide (a ≤ m[k].1) && decide (1 ≤ m[k].2) && decide (m[k].2 ≤ 8) && okFrom m[k].1 (m.drop (k + 1))) := by
  rw [List.drop_eq_getElem_cons h, okFrom_cons]

/-- A map's numbers are such as an int holds. -/
def MapR (m : MapD) : Prop := ∀ x ∈ m, (-9223372036854775808 ≤ x.1 ∧ x.1 ≤ 9223372036854775807) ∧ (-9223372036854775808 ≤ x.2 ∧ x.2 ≤ 9223372036854775807)

set_option maxHeartbeats 1000000 in
theorem mapCheck_calls (v : Value) (m : MapD) (w : World) (hv : IsMap w v m) (hl : m.length ≤ 1099511627776) :
    Calls Tryd.prog 14 #[v] w fun e w' => e = .returned (.int .i64 (checkM m)) ∧ Below w.heap.size w w' := by
  obtain ⟨a, cap, rfl, -, hcell⟩ := hv
  obtain ⟨r, hr⟩ : ∃ r, checkM m = r := ⟨_, rfl⟩
  rw [hr]
  by_cases h0 : m.length = 0
  · obtain rfl : m = [] := List.eq_nil_of_length_eq_zero h0
    subst hr
    clear hcell
    go_enter Tryd.func14, Tryd.ntmps14
    go_wp2
    go_ret
    exact ⟨rfl, Below.refl _ _⟩
  · obtain ⟨b, o, rfl, c00, c01⟩ := hcell 0 (by omega)
    have Hc := hide hcell
    clear hcell
    simp only [Nat.zero_mul, Nat.add_zero] at c00 c01
    have hok : okMap m = (decide ((m[0]'(by omega)).1 = 0) && okFrom 0 m) := by
      cases m with
      | nil => simp at h0
      | cons x r => rfl
    generalize (m[0]'(by omega)).1 = f0 at *
    have hbw : b < w.heap.size := World.block_lt_of_cell? w _ c00
    clear c01
    by_cases hf : f0 = 0
    · subst hf
      simp only [decide_true, Bool.true_and] at hok
      have hn : ((m.length : Int) == 0) = false := by rw [beq_eq_false_iff_ne]; omega
      go_enter Tryd.func14, Tryd.ntmps14
      go_wp2
      go_loopw [3, 18] (fun ah i wr => ∃ (k : Nat) (x : Int), ah = .int .i64 x ∧ i = .int .i64 (k : Int) ∧ k ≤ m.length ∧ okFrom x (m.drop k) = okMap m ∧ Below w.heap.size w wr) (fun _ i _ => m.length - (intOf i).toNat)
      case atStart => exact ⟨0, 0, rfl, rfl, Nat.zero_le _, hok.symm, Below.refl _ _⟩
      case round =>
        obtain ⟨k, x, rfl, rfl, hk, hok', hB⟩ := hrel
        by_cases hlt : k < m.length
        · have hltI : (k : Int) < (m.length : Int) := by omega
          obtain ⟨b', o', e, c0, c1⟩ := Hc.out k hlt
          cases e
          rw [okFrom_step hlt] at hok'
          replace c0 : wr.cell? ⟨b, o + k * 2, none⟩ = _ := (hB.cell (p := ⟨b, o + k * 2, none⟩) hbw).trans c0
          replace c1 : wr.cell? ⟨b, o + k * 2 + 1, none⟩ = _ := (hB.cell (p := ⟨b, o + k * 2 + 1, none⟩) hbw).trans c1
          generalize m[k].1 = p at *
          generalize m[k].2 = q at *
          have hbs := hB.size
          have hB' : Below w.heap.size w (wr.alloc (.cells #[.int .i64 p, .int .i64 q] 48)) := hB.alloc hB.size _
          have bad : ¬ (x ≤ p ∧ 1 ≤ q ∧ q ≤ 8) → r = 1 := fun hn => by
            rw [← hr, checkM, ← hok', if_neg]
            intro hx
            simp only [Bool.and_eq_true, decide_eq_true_eq] at hx
            exact hn ⟨hx.1.1.1, hx.1.1.2, hx.1.2⟩
          have Bad := hide bad
          have Hr := hide hr
          clear bad hr
          by_cases h1 : p < x
          · obtain rfl := Bad.out (by omega)
            go_wp2
            go_ret
            exact ⟨rfl, hB'⟩
          · by_cases h2 : q < 1
            · obtain rfl := Bad.out (by omega)
              go_wp2
              go_ret
              exact ⟨rfl, hB'⟩
            · by_cases h3 : q > 8
              · obtain rfl := Bad.out (by omega)
                go_wp2
                go_ret
                exact ⟨rfl, hB'⟩
              · have hok2 : okFrom p (m.drop (k + 1)) = okMap m := by
                  rw [← hok']
                  simp [show x ≤ p by omega, show 1 ≤ q by omega, show q ≤ 8 by omega]
                go_wp2
                exact ⟨⟨k + 1, p, rfl, by go_num, by omega, hok2, hB'⟩, by simp [intOf]; omega⟩
        · have hltI : ¬ (k : Int) < (m.length : Int) := by omega
          have hr0 : r = 0 := by
            rw [← hr, checkM, ← hok', List.drop_of_length_le (by omega)]
            rfl
          subst hr0
          go_wp2
          go_ret
          exact ⟨rfl, hB⟩
    · have : r = 1 := by rw [← hr, checkM, hok]; simp [hf]
      subst this
      have hn : ((m.length : Int) == 0) = false := by rw [beq_eq_false_iff_ne]; omega
      have hf2 : (f0 == 0) = false := by rw [beq_eq_false_iff_ne]; exact hf
      go_enter Tryd.func14, Tryd.ntmps14
      go_wp2
      go_ret
      exact ⟨rfl, Below.refl _ _⟩

end Go.Proofs.YtndhkbmgpjjepaaDoor
