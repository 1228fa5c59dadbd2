/-
  No cell of these rows narrows 'for every input' (looked for: loops, veiled, ifaces, maps, wideKeys, modest, calm, conditions, laid).
  DERIVED. THE GIVEN ROWS OF THIS SEAT. 5 by the template 'for every input the law returns true; each argument reads behind the call as it read before'; 0 by the template 'total and deterministic' (their statements: YtompaldhnbcikaaTotals.lean).
  GIVEN WITH THE SEED: the statements are not yours to turn. If you find one false, say at which input.
  Laid BY PROGRAM, IN A SANDBOX (cutbox-rows.mjs): the forced cells as the released guide's own fill.sh prints them over the translation bf25b1ab28d1dce2… (all of the seat's roots in one cut). By AI agents, Wed Nov 11 2026. No macro, syntax, notation, axiom, sorry.
-/
import Derived.Test.YtompaldhnbcikaaChecked
import GoSem.Claim
import GoSem.ClaimJoined
import GoSem.ClaimMapViews
import Derived.JoinedTies
import Derived.KernelRfl
namespace Go.Proofs.Ytompaldhnbcikaa
/- THE CELL 'sum', in the pinned program and in every row, IS THE sha256 OF THE DUMP (.gsa) THAT YtompaldhnbcikaaProg.lean LOADS. Nothing in Lean hashes anything: it is a label: what it is worth is what the hold of that sum in a sandbox is worth. -/
noncomputable def Try.pinned : Pinned := { name := "ytompaldhnbcikaa", sum := "bf25b1ab28d1dce28ffd5952664833f875bd568d128183d994650828044dee9b", checked := Try.checked }
namespace Rows
def none {H : Type} : Left H := { results := [], args := [] }

/-- 'landaulaw7.FilterPlays': WHATEVER THE INPUT: true; the input reads as it did. -/
def filterPlaysSpec : ChangeSpec := { name := "filterPlays", fn := fun _ => fun
  | [d1, d2, d3] => { results := [.lit (.bool true)], args := [d1, d2, d3] }
  | _ => none }
def filterPlaysRow : OpenClaim := { program := "ytompaldhnbcikaa", sum := "bf25b1ab28d1dce28ffd5952664833f875bd568d128183d994650828044dee9b", func := "landau/landaulaw7.FilterPlays", spec := "filterPlays", inPlace := ["maps.clone"], unfollowed := true, recurses := true, apart := false }
def FilterPlaysSaid : Prop := filterPlaysRow.holds Try.pinned (OpenSpec.ofChange filterPlaysSpec)

/-- ITS FALSE NEIGHBOUR: 'it returns false'. Refute it at one input. -/
def filterPlaysWrong : ChangeSpec := { name := "filterPlays", fn := fun _ => fun
  | [d1, d2, d3] => { results := [.lit (.bool false)], args := [d1, d2, d3] }
  | _ => none }
def FilterPlaysWrongFalsely : Prop := filterPlaysRow.holds Try.pinned (OpenSpec.ofChange filterPlaysWrong)

/-- 'landaulaw7.FilterOrder': WHATEVER THE INPUT: true; the input reads as it did. -/
def filterOrderSpec : ChangeSpec := { name := "filterOrder", fn := fun _ => fun
  | [d1, d2] => { results := [.lit (.bool true)], args := [d1, d2] }
  | _ => none }
def filterOrderRow : OpenClaim := { program := "ytompaldhnbcikaa", sum := "bf25b1ab28d1dce28ffd5952664833f875bd568d128183d994650828044dee9b", func := "landau/landaulaw7.FilterOrder", spec := "filterOrder", unfollowed := true, recurses := true, apart := false }
def FilterOrderSaid : Prop := filterOrderRow.holds Try.pinned (OpenSpec.ofChange filterOrderSpec)

/-- ITS FALSE NEIGHBOUR: 'it returns false'. Refute it at one input. -/
def filterOrderWrong : ChangeSpec := { name := "filterOrder", fn := fun _ => fun
  | [d1, d2] => { results := [.lit (.bool false)], args := [d1, d2] }
  | _ => none }
def FilterOrderWrongFalsely : Prop := filterOrderRow.holds Try.pinned (OpenSpec.ofChange filterOrderWrong)

/-- 'landaulaw7.FilterWindow': WHATEVER THE INPUT: true; the input reads as it did. -/
def filterWindowSpec : ChangeSpec := { name := "filterWindow", fn := fun _ => fun
  | [d1, d2, d3] => { results := [.lit (.bool true)], args := [d1, d2, d3] }
  | _ => none }
def filterWindowRow : OpenClaim := { program := "ytompaldhnbcikaa", sum := "bf25b1ab28d1dce28ffd5952664833f875bd568d128183d994650828044dee9b", func := "landau/landaulaw7.FilterWindow", spec := "filterWindow", unfollowed := true, recurses := true, apart := false }
def FilterWindowSaid : Prop := filterWindowRow.holds Try.pinned (OpenSpec.ofChange filterWindowSpec)

/-- ITS FALSE NEIGHBOUR: 'it returns false'. Refute it at one input. -/
def filterWindowWrong : ChangeSpec := { name := "filterWindow", fn := fun _ => fun
  | [d1, d2, d3] => { results := [.lit (.bool false)], args := [d1, d2, d3] }
  | _ => none }
def FilterWindowWrongFalsely : Prop := filterWindowRow.holds Try.pinned (OpenSpec.ofChange filterWindowWrong)

/-- 'landaulaw7.FilterSome': WHATEVER THE INPUT: true; the input reads as it did. -/
def filterSomeSpec : ChangeSpec := { name := "filterSome", fn := fun _ => fun
  | [d1, d2] => { results := [.lit (.bool true)], args := [d1, d2] }
  | _ => none }
def filterSomeRow : OpenClaim := { program := "ytompaldhnbcikaa", sum := "bf25b1ab28d1dce28ffd5952664833f875bd568d128183d994650828044dee9b", func := "landau/landaulaw7.FilterSome", spec := "filterSome", unfollowed := true, recurses := true, apart := false }
def FilterSomeSaid : Prop := filterSomeRow.holds Try.pinned (OpenSpec.ofChange filterSomeSpec)

/-- ITS FALSE NEIGHBOUR: 'it returns false'. Refute it at one input. -/
def filterSomeWrong : ChangeSpec := { name := "filterSome", fn := fun _ => fun
  | [d1, d2] => { results := [.lit (.bool false)], args := [d1, d2] }
  | _ => none }
def FilterSomeWrongFalsely : Prop := filterSomeRow.holds Try.pinned (OpenSpec.ofChange filterSomeWrong)

/-- 'landaulaw7.FilterResets': WHATEVER THE INPUT: true; the input reads as it did. -/
def filterResetsSpec : ChangeSpec := { name := "filterResets", fn := fun _ => fun
  | [d1, d2] => { results := [.lit (.bool true)], args := [d1, d2] }
  | _ => none }
def filterResetsRow : OpenClaim := { program := "ytompaldhnbcikaa", sum := "bf25b1ab28d1dce28ffd5952664833f875bd568d128183d994650828044dee9b", func := "landau/landaulaw7.FilterResets", spec := "filterResets", unfollowed := true, recurses := true, apart := false }
def FilterResetsSaid : Prop := filterResetsRow.holds Try.pinned (OpenSpec.ofChange filterResetsSpec)

/-- ITS FALSE NEIGHBOUR: 'it returns false'. Refute it at one input. -/
def filterResetsWrong : ChangeSpec := { name := "filterResets", fn := fun _ => fun
  | [d1, d2] => { results := [.lit (.bool false)], args := [d1, d2] }
  | _ => none }
def FilterResetsWrongFalsely : Prop := filterResetsRow.holds Try.pinned (OpenSpec.ofChange filterResetsWrong)

/- THE SECOND FORM. 'bulk': how many values and letters a reading holds, each counted each time it is reached (what is shared counts as often as it is met; a slice's spare places count too). A statement '..UptoSaid' is the law's where the arguments, and the package variables that the reading takes, are together of bulk at most 1048576: NARROWER than '..Said'. Prove '..Said' where nothing that the law and all that it calls make is longer than what came in: it says more and counts as full. Else prove '..UptoSaid'. A law counts once. -/
mutual
def uptoBulk {H : Type} : DataW H → Nat
  | .lit (.string bytes) => bytes.length + 1
  | .lit _ => 1
  | .nil => 1
  | .ptr d => uptoBulk d + 1
  | .slice elems spare => uptoBulkAll elems + uptoBulkAll spare + 1
  | .agg parts => uptoBulkAll parts + 1
  | .iface _ d => uptoBulk d + 1
  | .map entries => uptoBulkEntries entries + 1
  | .held _ => 1
def uptoBulkAll {H : Type} : List (DataW H) → Nat
  | [] => 0
  | d :: r => uptoBulk d + uptoBulkAll r
def uptoBulkEntries {H : Type} : List (Lit × DataW H) → Nat
  | [] => 0
  | x :: r => uptoBulkEntry x + uptoBulkEntries r
def uptoBulkEntry {H : Type} : Lit × DataW H → Nat
  | (.string bytes, d) => bytes.length + uptoBulk d + 1
  | (_, d) => uptoBulk d + 1
 end
def uptoSmall : (H : Type) → List (DataW H) → Bool := fun _ ds => decide (uptoBulkAll ds ≤ 1048576)
def OpenSpec.upto (s : _root_.Go.ChangeSpec) : _root_.Go.OpenSpec := { _root_.Go.OpenSpec.ofChange s with cond := some uptoSmall }

/-- 'landaulaw7.FilterPlays', WHERE WHAT IT READS IS OF BULK AT MOST 1048576: true; the input reads as it did. -/
def filterPlaysUptoRow : OpenClaim := { program := "ytompaldhnbcikaa", sum := "bf25b1ab28d1dce28ffd5952664833f875bd568d128183d994650828044dee9b", func := "landau/landaulaw7.FilterPlays", spec := "filterPlays", inPlace := ["maps.clone"], unfollowed := true, recurses := true, apart := false, narrowed := true }
def FilterPlaysUptoSaid : Prop := filterPlaysUptoRow.holds Try.pinned (OpenSpec.upto filterPlaysSpec)

/-- 'landaulaw7.FilterOrder', WHERE WHAT IT READS IS OF BULK AT MOST 1048576: true; the input reads as it did. -/
def filterOrderUptoRow : OpenClaim := { program := "ytompaldhnbcikaa", sum := "bf25b1ab28d1dce28ffd5952664833f875bd568d128183d994650828044dee9b", func := "landau/landaulaw7.FilterOrder", spec := "filterOrder", unfollowed := true, recurses := true, apart := false, narrowed := true }
def FilterOrderUptoSaid : Prop := filterOrderUptoRow.holds Try.pinned (OpenSpec.upto filterOrderSpec)

/-- 'landaulaw7.FilterWindow', WHERE WHAT IT READS IS OF BULK AT MOST 1048576: true; the input reads as it did. -/
def filterWindowUptoRow : OpenClaim := { program := "ytompaldhnbcikaa", sum := "bf25b1ab28d1dce28ffd5952664833f875bd568d128183d994650828044dee9b", func := "landau/landaulaw7.FilterWindow", spec := "filterWindow", unfollowed := true, recurses := true, apart := false, narrowed := true }
def FilterWindowUptoSaid : Prop := filterWindowUptoRow.holds Try.pinned (OpenSpec.upto filterWindowSpec)

/-- 'landaulaw7.FilterSome', WHERE WHAT IT READS IS OF BULK AT MOST 1048576: true; the input reads as it did. -/
def filterSomeUptoRow : OpenClaim := { program := "ytompaldhnbcikaa", sum := "bf25b1ab28d1dce28ffd5952664833f875bd568d128183d994650828044dee9b", func := "landau/landaulaw7.FilterSome", spec := "filterSome", unfollowed := true, recurses := true, apart := false, narrowed := true }
def FilterSomeUptoSaid : Prop := filterSomeUptoRow.holds Try.pinned (OpenSpec.upto filterSomeSpec)

/-- 'landaulaw7.FilterResets', WHERE WHAT IT READS IS OF BULK AT MOST 1048576: true; the input reads as it did. -/
def filterResetsUptoRow : OpenClaim := { program := "ytompaldhnbcikaa", sum := "bf25b1ab28d1dce28ffd5952664833f875bd568d128183d994650828044dee9b", func := "landau/landaulaw7.FilterResets", spec := "filterResets", unfollowed := true, recurses := true, apart := false, narrowed := true }
def FilterResetsUptoSaid : Prop := filterResetsUptoRow.holds Try.pinned (OpenSpec.upto filterResetsSpec)

end Rows
end Go.Proofs.Ytompaldhnbcikaa
