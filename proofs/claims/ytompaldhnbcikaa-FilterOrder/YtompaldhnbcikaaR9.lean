/- rec's Of: the records of a site, with their places. Own work; no statement. -/
import Derived.Test.YtompaldhnbcikaaR8
import Derived.Outline
set_option linter.unusedSimpArgs false
set_option linter.unusedVariables false
namespace Go.Proofs.Ytompaldhnbcikaa
open Go.RowKit Go.Sort
theorem placedTo_skip {l : List RecD} {site : Int} {k : Nat} (hk : k < l.length) (h : ¬ l[k].site = site) : placedTo l site (k + 1) = placedTo l site k := by
  simp only [placedTo, List.getElem?_eq_getElem hk, if_neg h, List.append_nil]
theorem placedTo_take {l : List RecD} {site : Int} {k : Nat} (hk : k < l.length) (h : l[k].site = site) : placedTo l site (k + 1) = placedTo l site k ++ [((k : Int), l[k])] := by
  simp only [placedTo, List.getElem?_eq_getElem hk, if_pos h]
theorem placedTo_length (l : List RecD) (site : Int) : ∀ k, (placedTo l site k).length ≤ k
  | 0 => by simp [placedTo]
  | k + 1 => by
    have := placedTo_length l site k
    simp only [placedTo, List.length_append]
    split
    · split <;> simp <;> omega
    · simp; omega

theorem cells_new {W : World} {c : Array Value} {e : TypeId} {g : Nat} (h : g = W.heap.size) : ∀ j u, c.toList[j]? = some u → (W.alloc (.cells c e)).cell? ((⟨g, 0, none⟩ : Addr).add j) = some u := by
  subst h
  intro j u hj
  rw [Addr.add_lit, Nat.zero_add, World.cell?_alloc_at _ _ _ _ rfl]
  simpa using hj

theorem six_one {p : Pl} {a : Option Addr} {n c : Nat} (h : p.vd = .slice a n c) : ∀ u ∈ p.cells, u.oneCell' = true := by
  intro u hu
  simp only [Pl.cells, h, List.mem_cons, List.not_mem_nil, or_false] at hu
  rcases hu with rfl | rfl | rfl | rfl | rfl | rfl <;> rfl

end Go.Proofs.Ytompaldhnbcikaa
