/- Records that come in any order: what goes on, what is held. Own work; no statement. -/
import Derived.Test.YtompaldhnbcikaaF14
set_option linter.unusedSimpArgs false
set_option linter.unusedVariables false
namespace Go.Proofs.Ytompaldhnbcikaa
open Go.RowKit Go.Shelf Go.Sort

theorem takesF_site : ∀ (j : Nat) (H : FilD), (takesF j H).site = H.site ∧ (takesF j H).room = H.room
  | 0, _ => ⟨rfl, rfl⟩
  | j + 1, H => takesF_site j (takeF H)
/-- What is not taken stays. -/
theorem takesF_stay : ∀ (j : Nat) (F : FilD) (r : RecD), r ∈ F.L → F.next + (j : Int) ≤ r.seq → r ∈ (takesF j F).L
  | 0, _, _, h, _ => h
  | j + 1, F, r, h, hs => by
    refine takesF_stay j (takeF F) r ?_ ?_
    · refine List.mem_filter.2 ⟨h, ?_⟩
      simp
      omega
    · simp [takeF]
      omega

/-- Of the records of site 1 up to k those up to m were here; none that is held may go on. -/
structure OrdF (k : Int) (m : Int) (F : FilD) : Prop where
  ok : F.ok
  site : F.site = 1
  room : F.room = 64
  next : F.next ≤ k + 1
  each : ∀ r ∈ F.L, r.seq ≤ k
  here : ∀ x, 1 ≤ x → x ≤ m → x < F.next ∨ ∃ r ∈ F.L, r.seq = x

theorem ordF_put {k m : Int} {F : FilD} (h : OrdF k m F) {s : Int} (hs : 1 ≤ s) (hk : s ≤ k) (hk2 : k ≤ 20) : OrdF k m (putF F (rR s)) ∧ (s < (putF F (rR s)).next ∨ ∃ r ∈ (putF F (rR s)).L, r.seq = s) := by
  have hn := h.ok.next0
  have h20 : 1 ≤ s ∧ s ≤ 1048576 := by omega
  by_cases h1 : s < F.next
  · rw [(putE_low h.site h20 h1).2]
    exact ⟨h, .inl h1⟩
  · by_cases h2 : ∃ r ∈ F.L, r.seq = s
    · obtain ⟨r, hr, he⟩ := h2
      rw [(putE_twice h.site h20 hr he).2]
      exact ⟨h, .inr ⟨r, hr, he⟩⟩
    · have h3 : ∀ x ∈ F.L, x.seq ≠ s := fun x hx e => h2 ⟨x, hx, e⟩
      have hr := h.room
      have hok := putF_ok h.ok (rR s)
      rw [(putE_new h.site h20 h3 (by omega) (by omega)).2] at hok ⊢
      refine ⟨⟨hok, h.site, h.room, h.next, ?_, ?_⟩, .inr ⟨rR s, by simp, rfl⟩⟩
      · intro r hr
        rcases List.mem_append.1 hr with hr | hr
        · exact h.each r hr
        · rw [List.mem_singleton.1 hr]
          exact hk
      · intro x h1 h2
        rcases h.here x h1 h2 with h | ⟨r, hr, he⟩
        · exact .inl h
        · exact .inr ⟨r, List.mem_append.2 (.inl hr), he⟩

theorem ordF_takes {k m : Int} {F : FilD} (h : OrdF k m F) : OrdF k m (takesF (readyL F).length F) ∧ firstF (takesF (readyL F).length F) = none ∧ (takesF (readyL F).length F).next = F.next + ((readyL F).length : Int) := by
  have hnx := takesF_next (readyL F).length F
  refine ⟨⟨(readyL_takes _ F h.ok (Nat.le_refl _)).1, (takesF_site _ F).1.trans h.site, (takesF_site _ F).2.trans h.room, ?_, fun r hr => h.each r (takesF_sub _ F r hr), ?_⟩, ?_, hnx⟩
  · rw [hnx]
    cases hl : (readyL F).length with
    | zero => have := h.next; simp; omega
    | succ c =>
      have h1 := readyL_seq h.ok c (by omega)
      have h2 := h.each _ (readyL_mem h.ok c (by omega))
      omega
  · intro x h1 h2
    rw [hnx]
    by_cases hx : x < F.next + ((readyL F).length : Int)
    · exact .inl hx
    · rcases h.here x h1 h2 with h' | ⟨r, hr, he⟩
      · omega
      · exact .inr ⟨r, takesF_stay _ F r hr (by omega), he⟩
  · rw [readyL_first h.ok _ (Nat.le_refl _)]
    exact List.getElem?_eq_none (Nat.le_refl _)

theorem putF_next (F : FilD) (r : RecD) : (putF F r).next = F.next := by
  unfold putF
  split <;> rfl
/-- One more came, and what may go on is taken. -/
theorem ordF_next {k m m' : Int} {F : FilD} (h : OrdF k m F) {s : Int} (hs : 1 ≤ s) (hk : s ≤ k) (hk2 : k ≤ 20) (hm : m' ≤ 0 ∨ m' = m + 1 ∧ s = m + 1) :
    OrdF k m' (takesF (readyL (putF F (rR s))).length (putF F (rR s))) ∧ firstF (takesF (readyL (putF F (rR s))).length (putF F (rR s))) = none ∧ (takesF (readyL (putF F (rR s))).length (putF F (rR s))).next = F.next + ((readyL (putF F (rR s))).length : Int) := by
  obtain ⟨h1, h2⟩ := ordF_put h hs hk hk2
  have h3 : OrdF k m' (putF F (rR s)) := by
    refine ⟨h1.ok, h1.site, h1.room, h1.next, h1.each, fun x x1 x2 => ?_⟩
    rcases hm with hm | ⟨hm, hm2⟩
    · omega
    · by_cases hx : x ≤ m
      · exact h1.here x x1 hx
      · obtain rfl : x = s := by omega
        exact h2
  have := ordF_takes h3
  rw [putF_next] at this
  exact this

theorem ordF_end {k : Int} {F : FilD} (hk : 0 ≤ k) (h : OrdF k k F) (hf : firstF F = none) : F.next = k + 1 ∧ F.L = [] := by
  have hn := h.ok.next0
  have h1 : F.next = k + 1 := by
    have := h.next
    by_cases hx : F.next ≤ k
    · rcases h.here F.next hn hx with h' | ⟨r, hr, he⟩
      · omega
      · exact absurd he (firstF_none hf r hr)
    · omega
  refine ⟨h1, ?_⟩
  cases hl : F.L with
  | nil => rfl
  | cons r l =>
    have hr : r ∈ F.L := by rw [hl]; simp
    have h2 := h.each r hr
    have h3 := (h.ok.each r hr).2.2.1
    omega

end Go.Proofs.Ytompaldhnbcikaa
