/- rec's Parse: a text as a record. Own work; no statement. -/
import Derived.Test.YtndhkbmgpjjepaaDoorR6
import Derived.Outline
set_option linter.unusedSimpArgs false
set_option linter.unusedVariables false
namespace Go.Proofs.YtndhkbmgpjjepaaDoor
open Go.RowKit Go.Sort

def zeroR : RecD := ⟨0, 0, [], ⟨#[]⟩, ⟨#[]⟩⟩
/-- A record's parts as the record, and the error's number. -/
def parseP (ok : Bool) (p1 p2 p3 p4 p5 : List UInt8) : RecD × Int :=
  if ok = true ∧ (numL p1).2 = true ∧ (numL p2).2 = true then
    (if (parseL p3).2 = 0 then
      (if checkR ⟨(numL p1).1, (numL p2).1, (parseL p3).1, ⟨p4.toArray⟩, ⟨p5.toArray⟩⟩ 8 = 0 then (⟨(numL p1).1, (numL p2).1, (parseL p3).1, ⟨p4.toArray⟩, ⟨p5.toArray⟩⟩, 0)
        else (zeroR, checkR ⟨(numL p1).1, (numL p2).1, (parseL p3).1, ⟨p4.toArray⟩, ⟨p5.toArray⟩⟩ 8))
      else (zeroR, (parseL p3).2))
    else (zeroR, 2)
/-- A text as a record, and the error's number. -/
def parseR (s : List UInt8) : RecD × Int :=
  match splitR s with
  | some p => parseP true p.site p.seq p.dep p.key p.val
  | none => parseP false [] [] [] [] []

theorem splitR_length {s : List UInt8} {p : Parts} (h : splitR s = some p) : p.site.length ≤ s.length ∧ p.seq.length ≤ s.length ∧ p.dep.length ≤ s.length ∧ p.key.length ≤ s.length ∧ p.val.length ≤ s.length := by
  unfold splitR at h
  dsimp only at h
  have h1 := cutL_length s 58
  generalize cutL s 58 = c1 at *
  have h2 := cutL_length c1.2.1 32
  generalize cutL c1.2.1 32 = c2 at *
  generalize (Lib.indexByte c2.2.1 93 + 1).toNat = e at *
  have h3 := trimPrefix_length (c2.2.1.drop e) [32]
  have h4 := cutL_length (Lib.trimPrefix (c2.2.1.drop e) [32]) 61
  generalize cutL (Lib.trimPrefix (c2.2.1.drop e) [32]) 61 = c3 at *
  split at h
  · have e1 := Option.some.inj h
    subst e1
    simp only [List.length_drop] at h3
    refine ⟨by dsimp only; omega, by dsimp only; omega, by dsimp only; simp; omega, by dsimp only; omega, by dsimp only; omega⟩
  · cases h

theorem parseL_len (s : List UInt8) : (parseL s).1.length ≤ 8 := by
  unfold parseL parseN
  have := stOf_len (splitL (innerL s))
  split
  · split
    · simp
    · split
      · split
        · simp
        · split
          · simp
          · simpa using this
      · simp
  · simp
theorem own_below {W W' : World} {B : Nat} {e : TypeId} {size : Nat} {v : Value} {n : Nat} {xs : List Value} (h : W.ownsRow B e size v n xs) (hB : Below W.heap.size W W') : W'.ownsRow B e size v n xs :=
  ownsRow_of_heap h fun k hk => hB.block k (h.lt k hk).2
theorem keepB {b : Nat} {o : Obj} {W W' : World} (h : W.heap[b]? = some o) (hB : Below W.heap.size W W') : W'.heap[b]? = some o := (hB.block b (Array.getElem?_eq_some_iff.1 h).1).trans h
theorem ltB {b : Nat} {o : Obj} {W : World} (h : W.heap[b]? = some o) : b < W.heap.size := (Array.getElem?_eq_some_iff.1 h).1

/-- What Parse hands back is in its own block: the end of each way that tells an error. -/
theorem parse_zero {W w : World} {b : Nat} {x0 x1 x2 x3 x4 : Value} {t : TypeId} (h : W.heap[b]? = some (.cells #[x0, x1, x2, x3, x4] t (0, 0))) (hB : Below w.heap.size w W) (hb : w.heap.size ≤ b) :
    ∃ W', put5 W b (.int .i64 0) (.int .i64 0) (.slice none 0 0) (.string ⟨#[]⟩) (.string ⟨#[]⟩) = W' ∧ W'.cell? ⟨b, 0, none⟩ = some (.int .i64 0) ∧ W'.cell? ⟨b, 1, none⟩ = some (.int .i64 0) ∧ W'.cell? ⟨b, 2, none⟩ = some (.slice none 0 0) ∧ W'.cell? ⟨b, 3, none⟩ = some (.string ⟨#[]⟩) ∧ W'.cell? ⟨b, 4, none⟩ = some (.string ⟨#[]⟩) ∧ Below w.heap.size w W' := by
  have e := put5_heap h (.int .i64 0) (.int .i64 0) (.slice none 0 0) (.string ⟨#[]⟩) (.string ⟨#[]⟩)
  exact ⟨_, rfl, cell_at e 0, cell_at e 1, cell_at e 2, cell_at e 3, cell_at e 4, put5_below hB hb _ _ _ _ _⟩
theorem zero_own (B : Nat) (w : World) : OwnRec B w (.agg #[.int .i64 0, .int .i64 0, .slice none 0 0, .string ⟨#[]⟩, .string ⟨#[]⟩]) zeroR := ⟨_, rfl, World.ownsRow_nil _ _ _ _⟩

end Go.Proofs.YtndhkbmgpjjepaaDoor
