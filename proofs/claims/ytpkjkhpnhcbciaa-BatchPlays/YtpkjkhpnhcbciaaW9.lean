/- Memory laws for rows and boxes side by side; Sum in plain numbers; the laws' Pairs. Own work; no statement. -/
import Derived.Test.YtpkjkhpnhcbciaaW8
import Derived.Maps.OwnIn
set_option linter.unusedSimpArgs false
set_option linter.unusedVariables false
namespace Go.Proofs.Ytpkjkhpnhcbciaa
open Go.RowKit Go.Shelf

attribute [local go_sem] Oper.semAt_some

theorem ownsRow_slice {W : World} {base : Nat} {e : TypeId} {size : Nat} {v : Value} {n : Nat} {xs : List Value} (h : W.ownsRow base e size v n xs) : ∃ a cap, v = .slice a n cap := by
  rcases h.2 with ⟨rfl, rfl⟩ | ⟨g, cap, cur, rfl, _⟩
  · exact ⟨_, _, rfl⟩
  · exact ⟨_, _, rfl⟩
theorem ownsRow_of_heap {W W' : World} {base : Nat} {e : TypeId} {size : Nat} {v : Value} {n : Nat} {xs : List Value} (h : W.ownsRow base e size v n xs) (hk : ∀ k, v.ownBlock = some k → W'.heap[k]? = W.heap[k]?) : W'.ownsRow base e size v n xs := by
  refine ⟨h.1, ?_⟩
  rcases h.2 with hn | ⟨g, cap, cur, rfl, hb, hgg, rest⟩
  · exact .inl hn
  · exact .inr ⟨g, cap, cur, rfl, hb, (hk g rfl).trans hgg, rest⟩
theorem ownsRow_low {W : World} {B B' : Nat} {e : TypeId} {size : Nat} {v : Value} {n : Nat} {xs : List Value} (h : W.ownsRow B e size v n xs) (hB : B' ≤ B) : W.ownsRow B' e size v n xs := by
  refine ⟨h.1, ?_⟩
  rcases h.2 with hn | ⟨g, cap, cur, rfl, hb, rest⟩
  · exact .inl hn
  · exact .inr ⟨g, cap, cur, rfl, Nat.le_trans hB hb, rest⟩
theorem boxed_of_heap {W W' : World} {B : Nat} {t : TypeId} {v : Value} (h : Boxed W B t v) (hk : W'.heap[B]? = W.heap[B]?) : Boxed W' B t v := hk.trans h
/-- Behind 'x = append(x, ..)' by way of x's box B: every other block is as it was. -/
theorem app_other {W w1 : World} {tmp : Obj} {row : Option Nat} {B : Nat} {v' : Value} (hgrow : (W.alloc tmp).grownBy w1 row) (k : Nat) (hk : k < W.heap.size) (hne : some k ≠ row) (hB : k ≠ B) : (w1.setCell ⟨B, 0, none⟩ v').heap[k]? = W.heap[k]? :=
  (Below.heap_setCell _ _ _ _ hB).trans ((hgrow.block k (by simp; omega) hne).trans (Below.heap_alloc _ _ _ hk))
theorem own_keeps {X Y : World} {row : Option Nat} (hg : X.grownBy Y row) (hrow : ∀ r, row = some r → ∃ o : Obj, X.heap[r]? = some o ∧ o.isCells = false) {k : Nat} {c : Array Value} {t : TypeId} {fr : Nat × Nat} (h : X.heap[k]? = some (.cells c t fr)) : Y.heap[k]? = X.heap[k]? := by
  refine hg.block k (Array.getElem?_eq_some_iff.1 h).1 (fun e => ?_)
  obtain ⟨o, ho, hc⟩ := hrow k e.symm
  rw [h] at ho
  cases ho
  cases hc
theorem boxed_own' {X Y : World} {row : Option Nat} (hg : X.grownBy Y row) (hrow : ∀ r, row = some r → ∃ o : Obj, X.heap[r]? = some o ∧ o.isCells = false) {B : Nat} {t : TypeId} {v : Value} (h : Boxed X B t v) : Boxed Y B t v := (own_keeps hg hrow h).trans h
theorem ownsRow_own' {X Y : World} {row : Option Nat} (hg : X.grownBy Y row) (hrow : ∀ r, row = some r → ∃ o : Obj, X.heap[r]? = some o ∧ o.isCells = false) {base : Nat} {e : TypeId} {size : Nat} {v : Value} {n : Nat} {xs : List Value} (h : X.ownsRow base e size v n xs) : Y.ownsRow base e size v n xs := by
  refine ownsRow_of_heap h (fun k hk => ?_)
  rcases h.2 with ⟨rfl, _⟩ | ⟨g, cap, cur, rfl, hb, hgg, rest⟩
  · cases hk
  · obtain rfl : g = k := by simpa [Value.ownBlock] using hk
    exact own_keeps hg hrow hgg

/-- Two boxes side by side, each with a slice that owns a row of its own, and the rows are two. -/
def Two (W : World) (n₀ : Nat) (t e : TypeId) (c c' : Nat) (v v' : Value) (n n' : Nat) (xs ys : List Value) : Prop :=
  Boxed W c t v ∧ Boxed W c' t v' ∧ W.ownsRow n₀ e 1 v n xs ∧ W.ownsRow n₀ e 1 v' n' ys ∧ ∀ k, v.ownBlock = some k → v'.ownBlock ≠ some k
theorem Two.symm {W : World} {n₀ : Nat} {t e : TypeId} {c c' : Nat} {v v' : Value} {n n' : Nat} {xs ys : List Value} (h : Two W n₀ t e c c' v v' n n' xs ys) : Two W n₀ t e c' c v' v n' n ys xs :=
  ⟨h.2.1, h.1, h.2.2.2.1, h.2.2.1, fun k h1 h2 => h.2.2.2.2 k h2 h1⟩
theorem Two.own {X Y : World} {row : Option Nat} (hg : X.grownBy Y row) (hrow : ∀ r, row = some r → ∃ o : Obj, X.heap[r]? = some o ∧ o.isCells = false) {n₀ : Nat} {t e : TypeId} {c c' : Nat} {v v' : Value} {n n' : Nat} {xs ys : List Value} (h : Two X n₀ t e c c' v v' n n' xs ys) : Two Y n₀ t e c c' v v' n n' xs ys :=
  ⟨boxed_own' hg hrow h.1, boxed_own' hg hrow h.2.1, ownsRow_own' hg hrow h.2.2.1, ownsRow_own' hg hrow h.2.2.2.1, h.2.2.2.2⟩
/-- 'x = append(x, y)', x the one of the two. -/
theorem Two.app {W w1 : World} {n₀ : Nat} {t e : TypeId} {c c' : Nat} {v v' u : Value} {n n' m : Nat} {xs ys zs : List Value} {tmp : Obj} (h : Two W n₀ t e c c' v v' n n' xs ys) (hte : t ≠ e) (hcc : c ≠ c') (hn₀ : n₀ ≤ W.heap.size) (hc : n₀ ≤ c)
    (hown : w1.ownsRow n₀ e 1 u m zs) (hgrow : (W.alloc tmp).grownBy w1 v.ownBlock) (hat : u.ownBlock = v.ownBlock ∨ u.ownBlock = some (W.alloc tmp).heap.size) :
    Boxed w1 c t v ∧ Two (w1.setCell ⟨c, 0, none⟩ u) n₀ t e c c' u v' m n' zs ys ∧ KeepsOthers W (w1.setCell ⟨c, 0, none⟩ u) ∧ Below n₀ W (w1.setCell ⟨c, 0, none⟩ u) ∧ W.heap.size ≤ w1.heap.size ∧
      Hid (∀ b t' z, Boxed W b t' z → t' ≠ e → b ≠ c → Boxed (w1.setCell ⟨c, 0, none⟩ u) b t' z) := by
  obtain ⟨ba, bb, ra, rb, hap⟩ := h
  obtain ⟨h1, h2, h3, h4, h5⟩ := ba.appended hte ra hn₀ hc hown hgrow
  refine ⟨h1, ⟨h2, boxed_of_heap bb (app_other hgrow c' bb.lt (bb.not_row hte ra) (fun e => hcc e.symm)), h3, ownsRow_of_heap rb (fun k hk => app_other hgrow k (rb.lt k hk).2 (fun e => hap k e.symm hk) (fun e => ba.not_row hte rb (by rw [hk, e]))), fun k h6 h7 => ?_⟩, h4, h5, ?_, fun b t' z hb ht hbc => boxed_of_heap hb (app_other hgrow b hb.lt (hb.not_row ht ra) hbc)⟩
  case refine_2 => have := hgrow.size; simp at this; omega
  rcases hat with e | e
  · exact hap k (e ▸ h6) h7
  · have := (rb.lt k h7).2
    rw [h6] at e
    simp at e
    omega
/-- The numbers that All tells, added: those of the vector. -/
theorem sum_pairsTo (l : List Int) (h : ∀ x ∈ l, 0 ≤ x ∧ x ≤ 1099511627776) (hl : l.length ≤ 1048576) : ∀ k, k ≤ l.length → sumW (pairsTo l k) = (l.take k).sum ∧ 0 ≤ (l.take k).sum ∧ (l.take k).sum ≤ 1099511627776 * k
  | 0, _ => by simp [pairsTo, sumW]
  | k + 1, hk => by
    obtain ⟨h1, h2, h3⟩ := sum_pairsTo l h hl k (by omega)
    have hx := h (l.getD k 0) (by rw [List.getD, List.getElem?_eq_getElem (by omega)]; exact List.getElem_mem _)
    have hs : (l.take (k + 1)).sum = (l.take k).sum + l.getD k 0 := by rw [take_snoc_getD l k (by omega)]; simp
    have hk3 : (1099511627776 : Int) * ((k + 1 : Nat) : Int) = 1099511627776 * (k : Int) + 1099511627776 := by omega
    rw [hs, hk3]
    refine ⟨?_, by omega, by omega⟩
    simp only [pairsTo]
    split
    · rename_i h0
      rw [List.append_nil, h1, h0]
      omega
    · rw [sumW_snoc, h1]
      unfold wrap64
      omega

end Go.Proofs.Ytpkjkhpnhcbciaa
