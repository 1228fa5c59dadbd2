/- slices.Clone at vec.Vec; rec's copied. Own work; no statement. -/
import Derived.Test.YtndhkbmgpjjepaaDoorR5
import Derived.Laws.AppendOwn
set_option linter.unusedSimpArgs false
set_option linter.unusedVariables false
namespace Go.Proofs.YtndhkbmgpjjepaaDoor
open Go.RowKit Go.Sort

theorem row_of_nil (w : World) (B : Nat) (e : TypeId) : w.ownsRow B e 1 (.slice none 0 0) 0 [] := World.ownsRow_nil w B e 1

theorem frozen_at {W : World} {b : Nat} {c : Array Value} {t : TypeId} (h : W.heap[b]? = some (.cells c t (0, 0))) (j : Nat) : W.frozen? ⟨b, j, none⟩ = false := by
  simp [World.frozen?, h]

/-- A record by value, with its numbers in memory of its own from block B on. -/
def OwnRec (B : Nat) (w : World) (v : Value) (r : RecD) : Prop :=
  ∃ vd, v = .agg #[.int .i64 r.site, .int .i64 r.seq, vd, .string r.key, .string r.val] ∧ w.ownsRow B 3 1 vd r.dep.length (r.dep.map (Value.int .i64))

theorem OwnRec.isRec {B : Nat} {w : World} {v : Value} {r : RecD} (h : OwnRec B w v r) : IsRec w v r := by
  obtain ⟨vd, rfl, ho⟩ := h
  obtain ⟨a, cap, rfl⟩ := ownsRow_slice ho
  exact ⟨a, cap, rfl, IsNums.of_row ho⟩

end Go.Proofs.YtndhkbmgpjjepaaDoor
