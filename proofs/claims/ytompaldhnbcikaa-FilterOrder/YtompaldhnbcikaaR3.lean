/- rec's Before and Same. Own work; no statement. -/
import Derived.Test.YtompaldhnbcikaaR2
import Derived.StillTailTactics
set_option linter.unusedSimpArgs false
set_option linter.unusedVariables false
namespace Go.Proofs.Ytompaldhnbcikaa
open Go.RowKit

/-- A region whose head only reads, and whose tail comes in one order. -/
theorem region_tail {P : Program} {id : Nat} {Q : Exit → Act → World → Prop} {a : Act} {w : World} {l : List Oper} (n : Nat) (hm : P.follows .mixedOrders = true) (hB : Region.lexTailB .any l.toArray n = true)
    (h : wpStill P l.toArray w.drew (fun a' => wpList P l.toArray Q (l.drop n) a' w.drew) (l.take n) a) : (Code.region id l.toArray true).wp P Q a w := wp_region_still_tail n hm hB h

theorem str_ne {a b : ByteArray} (h : ¬ a = b) : (a.toList == b.toList) = false := by
  rw [beq_eq_false_iff_ne, Lib.toList_data, Lib.toList_data]
  intro e
  exact h (ByteArray.ext (Array.toList_inj.1 e))

def sameR (a b : RecD) : Bool := decide (a.site = b.site) && (decide (a.seq = b.seq) && (decide (a.key = b.key) && (decide (a.val = b.val) && everyB eqB a.dep b.dep)))

def beforeR (a b : RecD) : Bool := decide (a.site < b.site ∨ a.site = b.site ∧ a.seq < b.seq)


end Go.Proofs.Ytompaldhnbcikaa
