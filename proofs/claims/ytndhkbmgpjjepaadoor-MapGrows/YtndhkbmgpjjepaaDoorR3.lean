/- rec's Before and Same. Own work; no statement. -/
import Derived.Test.YtndhkbmgpjjepaaDoorR2
import Derived.StillTailTactics
set_option linter.unusedSimpArgs false
set_option linter.unusedVariables false
namespace Go.Proofs.YtndhkbmgpjjepaaDoor
open Go.RowKit

/-- A region whose head only reads, and whose tail comes in one order. -/
theorem region_tail {P : Program} {id : Nat} {Q : Exit → Act → World → Prop} {a : Act} {w : World} {l : List Oper} (n : Nat) (hm : P.follows .mixedOrders = true) (hB : Region.lexTailB .any l.toArray n = true)
    (h : wpStill P l.toArray w.drew (fun a' => wpList P l.toArray Q (l.drop n) a' w.drew) (l.take n) a) : (Code.region id l.toArray true).wp P Q a w := wp_region_still_tail n hm hB h

theorem str_ne {a b : ByteArray} (h : ¬ a = b) : (a.toList == b.toList) = false := by
  rw [beq_eq_false_iff_ne, Lib.toList_data, Lib.toList_data]
  intro e
  exact h (ByteArray.ext (Array.toList_inj.1 e))

def sameR (a b : RecD) : Bool := decide (a.site = b.site) && (decide (a.seq = b.seq) && (decide (a.key = b.key) && (decide (a.val = b.val) && everyB eqB a.dep b.dep)))

def beforeR (a b : RecD) : Bool := decide (a.site < b.site ∨ a.site = b.site ∧ a.seq < b.seq)

theorem before_num (x y x' y' : Int) : decide ((if Lib.compareInt x y = 0 then Lib.compareInt x' y' else Lib.compareInt x y) < 0) = decide (x < y ∨ x = y ∧ x' < y') := by
  unfold Lib.compareInt
  by_cases h : x < y
  · simp [h]
  · by_cases h2 : y < x
    · have : ¬ x = y := by omega
      simp [h, h2, this]
    · have e : x = y := by omega
      subst e
      by_cases h3 : x' < y'
      · simp [h3]
      · by_cases h4 : y' < x' <;> simp [h3, h4]

end Go.Proofs.YtndhkbmgpjjepaaDoor
