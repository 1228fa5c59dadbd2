/- The records of a site among the first ones: pure laws. Own work; no statement. -/
import Derived.Test.YthpahkcncjieiaaDoorR10
import Derived.Test.YthpahkcncjieiaaDoorPlain
set_option linter.unusedSimpArgs false
set_option linter.unusedVariables false
namespace Go.Proofs.YthpahkcncjieiaaDoor
open Go.RowKit Go.Sort

theorem placedTo_pre (l : List RecD) (site : Int) (k : Nat) : ∀ d, placedTo l site k <+: placedTo l site (k + d)
  | 0 => List.prefix_refl _
  | d + 1 => by
    refine (placedTo_pre l site k d).trans ?_
    rw [← Nat.add_assoc, placedTo]
    exact List.prefix_append _ _
theorem placedTo_le (l : List RecD) (site : Int) {k m : Nat} (h : k ≤ m) : placedTo l site k <+: placedTo l site m := by
  have := placedTo_pre l site k (m - k)
  rwa [show k + (m - k) = m by omega] at this

theorem placedTo_mem {l : List RecD} {site : Int} {i : Int} {r : RecD} : ∀ {k}, (i, r) ∈ placedTo l site k → r ∈ l
  | 0, h => by simp [placedTo] at h
  | k + 1, h => by
    simp only [placedTo, List.mem_append] at h
    rcases h with h | h
    · exact placedTo_mem h
    · split at h
      · rename_i q hq
        split at h
        · simp only [List.mem_singleton, Prod.mk.injEq] at h
          rw [h.2]
          exact List.mem_of_getElem? hq
        · simp at h
      · simp at h

theorem placedTo_at {l : List RecD} {site : Int} {k : Nat} (h : k < l.length) (hs : l[k].site = site) : (placedTo l site l.length)[(placedTo l site k).length]? = some ((k : Int), l[k]) := by
  obtain ⟨r, hr⟩ := placedTo_le l site (show k + 1 ≤ l.length by omega)
  rw [← hr, placedTo_take h hs]
  simp

/-- What is handed over behind as many as the first k records have is the next one of the site. -/
theorem placed_next {l : List RecD} {site : Int} {pre : List Pl} {x : Pl} {k : Nat} (hl : pre.length = (placedTo l site k).length) (hp : (pre ++ [x]).map (fun p => (p.i, p.r)) <+: placedTo l site l.length) :
    (placedTo l site l.length)[(placedTo l site k).length]? = some (x.i, x.r) := by
  obtain ⟨r, hr⟩ := hp
  rw [← hr, ← hl, List.map_append, List.append_assoc, List.getElem?_append_right (by simp)]
  simp
theorem placed_end {l : List RecD} {site : Int} {pre : List Pl} {x : Pl} {k : Nat} (hk : k = l.length) (hl : pre.length = (placedTo l site k).length) : ¬ (pre ++ [x]).map (fun p => (p.i, p.r)) <+: placedTo l site l.length := by
  intro hp
  have := placed_next hl hp
  subst hk
  simp at this
theorem placed_here {l : List RecD} {site : Int} {pre : List Pl} {x : Pl} {k : Nat} (h : k < l.length) (hs : l[k].site = site) (hl : pre.length = (placedTo l site k).length) (hp : (pre ++ [x]).map (fun p => (p.i, p.r)) <+: placedTo l site l.length) : x.i = (k : Int) ∧ x.r = l[k] := by
  have := placed_next hl hp
  rw [placedTo_at h hs] at this
  simp only [Option.some.injEq, Prod.mk.injEq] at this
  exact ⟨this.1.symm, this.2.symm⟩
/-- Behind the last one there is none. -/
theorem placed_rest {l : List RecD} {site : Int} {k : Nat} (h : k < l.length) (hl : (placedTo l site l.length).length = (placedTo l site k).length) : ¬ l[k].site = site ∧ (placedTo l site l.length).length = (placedTo l site (k + 1)).length := by
  have hn : ¬ l[k].site = site := by
    intro hs
    have := placedTo_at h hs
    rw [← hl] at this
    simp at this
  exact ⟨hn, by rw [placedTo_skip h hn]; exact hl⟩

theorem sameR_self (r : RecD) : sameR r r = true := by
  unfold sameR
  simp only [decide_true, Bool.true_and]
  rw [same_iff]
  exact fun _ => rfl

end Go.Proofs.YthpahkcncjieiaaDoor
