/- Own work: the parts T1, TKp of the proof, laid together. -/
import Derived.Test.YtdkpbfigjdmfpaaPartTokenChain2
import Derived.Test.YtdkpbfigjdmfpaaPartTokenChain3
/- Drafts of other sites, handed over at once or one after the other: the same is seen, as many are admitted, as many wait. Own work; no statement. -/
set_option linter.unusedSimpArgs false
set_option linter.unusedVariables false
namespace Go.Proofs.Ytdkpbfigjdmfpaa
open Go.RowKit

/-- The same site and number. -/
def keyEq (x y : DrD) : Prop := x.r.site = y.r.site ∧ x.r.seq = y.r.seq
/-- Nowhere more. -/
def leT (a b : List Int) : Prop := ∀ i : Nat, geti a (i : Int) ≤ geti b (i : Int)
theorem leT.refl (a : List Int) : leT a a := fun _ => Int.le_refl _
theorem leT.trans {a b c : List Int} (h : leT a b) (k : leT b c) : leT a c := fun i => Int.le_trans (h i) (k i)
/-- Drafts of other sites, of sites that there are. -/
def othersT (own : Int) (l : List DrD) : Prop := ∀ d ∈ l, d.r.site ≠ own ∧ 0 ≤ d.r.site ∧ d.r.site ≤ 7
theorem othersT.sub {own : Int} {l m : List DrD} (h : othersT own l) (hs : ∀ d ∈ m, d ∈ l) : othersT own m := fun d hd => h d (hs d hd)

section
variable {own : Int}

theorem may_other {s : List Int} {d : DrD} (ho : d.r.site ≠ own) : mayD own s d = true ↔ d.r.seq = geti s d.r.site + 1 ∧ everyB covB s d.r.dep = true := by
  unfold mayD
  rw [if_neg ho]
  simp
theorem seen_le {s : List Int} {d : DrD} (h : mayD own s d = true) (h0 : 0 ≤ d.r.site) (h1 : d.r.site ≤ 63) : leT s (seenT own s d) := fun i => by
  rw [seenT_get h h0 h1]
  split
  · rename_i e
    rw [e]
    omega
  · exact Int.le_refl _
theorem adm_grow : ∀ (n : Nat) (s : List Int) (l : List DrD), (∀ d ∈ l, 0 ≤ d.r.site ∧ d.r.site ≤ 63) → leT s (admT own n s l).1
  | 0, s, l, _ => leT.refl s
  | n + 1, s, l, h => by
    unfold admT
    cases hf : l.find? (mayD own s) with
    | none => exact leT.refl s
    | some x =>
      obtain ⟨hx, hm, -⟩ := find_out hf
      exact (seen_le hm (h x hx).1 (h x hx).2).trans (adm_grow n _ _ fun d hd => h d (outT_mem hf d hd))
/-- What is seen in the end is no more than whatever lets none come any more. -/
theorem adm_least {S : List Int} {all : List DrD} (hS : ∀ d ∈ all, mayD own S d = false) (ha : othersT own all) : ∀ (n : Nat) (s : List Int) (l : List DrD), (∀ d ∈ l, d ∈ all) → leT s S → leT (admT own n s l).1 S
  | 0, s, l, _, h => h
  | n + 1, s, l, hl, h => by
    unfold admT
    cases hf : l.find? (mayD own s) with
    | none => exact h
    | some x =>
      obtain ⟨hx, hm, -⟩ := find_out hf
      obtain ⟨ho, h0, h1⟩ := ha x (hl x hx)
      refine adm_least hS ha n _ _ (fun d hd => hl d (outT_mem hf d hd)) fun i => ?_
      rw [seenT_get hm h0 (by omega)]
      split
      · rename_i e
        have hi := h i
        rw [e] at hi ⊢
        have hno := hS x (hl x hx)
        by_cases hlt : geti s x.r.site + 1 ≤ geti S x.r.site
        · exact hlt
        · obtain ⟨q1, q2⟩ := (may_other ho).1 hm
          have : mayD own S x = true := (may_other ho).2 ⟨by omega, cov_trans h q2⟩
          rw [hno] at this
          cases this
      · exact h i
/-- Each is seen, or is left. -/
theorem adm_keeps : ∀ (n : Nat) (s : List Int) (l : List DrD), othersT own l → ∀ d ∈ l, d.r.seq ≤ geti (admT own n s l).1 d.r.site ∨ d ∈ (admT own n s l).2.1
  | 0, s, l, _, d, hd => .inr hd
  | n + 1, s, l, ho, d, hd => by
    unfold admT
    cases hf : l.find? (mayD own s) with
    | none => exact .inr hd
    | some x =>
      obtain ⟨hx, hm, -, a, b, e, eo, -⟩ := find_out hf
      have hsub : ∀ d ∈ outT own s l, d ∈ l := outT_mem hf
      dsimp only
      by_cases hdx : d ∈ outT own s l
      · exact adm_keeps n _ _ (ho.sub hsub) d hdx
      · have hdx' : d = x := by
          rw [e] at hd
          rw [eo] at hdx
          rcases List.mem_append.1 hd with h | h
          · exact absurd (List.mem_append.2 (.inl h)) hdx
          · rcases List.mem_cons.1 h with h | h
            · exact h
            · exact absurd (List.mem_append.2 (.inr h)) hdx
        subst hdx'
        obtain ⟨h1, h2, h3⟩ := ho d hx
        have hg := adm_grow (own := own) n (seenT own s d) (outT own s l) fun y hy => by have := ho y (hsub y hy); omega
        obtain ⟨k, hk⟩ := Int.eq_ofNat_of_zero_le h2
        have := hg k
        rw [← hk, seenT_get hm h2 (by omega), if_pos rfl] at this
        obtain ⟨q1, -⟩ := (may_other h1).1 hm
        exact .inl (by omega)
theorem late_keeps : ∀ (s : List Int) (e l : List DrD), (∀ d ∈ l, d.r.site ≠ own) → ∀ d ∈ l, d.r.seq ≤ geti s d.r.site ∨ (∃ x ∈ e, keyEq x d) ∨ ∃ x ∈ lateT own s e l, keyEq x d
  | _, _, [], _, d, h => by cases h
  | s, e, x :: l, ho, d, hd => by
    have hx : goneT own s e x = true → x.r.seq ≤ geti s x.r.site ∨ ∃ y ∈ e, keyEq y x := fun h => by
      unfold goneT at h
      rw [if_neg (ho x List.mem_cons_self)] at h
      simp only [Bool.or_eq_true, decide_eq_true_eq, List.any_eq_true, Bool.and_eq_true] at h
      exact h
    have ih := late_keeps s (e ++ [x]) l fun d hd => ho d (List.mem_cons_of_mem _ hd)
    unfold lateT
    split
    · rename_i hg
      have hx' := hx hg
      rcases List.mem_cons.1 hd with rfl | hd
      · exact hx'.imp id .inl
      · rcases ih d hd with h | ⟨y, hy, hk⟩ | h
        · exact .inl h
        · rcases List.mem_append.1 hy with hy | hy
          · exact .inr (.inl ⟨y, hy, hk⟩)
          · rw [List.mem_singleton.1 hy] at hk
            rcases hx' with h | ⟨z, hz, hk2⟩
            · exact .inl (by rw [← hk.1, ← hk.2]; exact h)
            · exact .inr (.inl ⟨z, hz, hk2.1.trans hk.1, hk2.2.trans hk.2⟩)
        · exact .inr (.inr h)
    · rcases List.mem_cons.1 hd with rfl | hd
      · exact .inr (.inr ⟨d, List.mem_cons_self, rfl, rfl⟩)
      · rcases ih d hd with h | ⟨y, hy, hk⟩ | ⟨y, hy, hk⟩
        · exact .inl h
        · rcases List.mem_append.1 hy with hy | hy
          · exact .inr (.inl ⟨y, hy, hk⟩)
          · rw [List.mem_singleton.1 hy] at hk
            exact .inr (.inr ⟨x, List.mem_cons_self, hk⟩)
        · exact .inr (.inr ⟨y, List.mem_cons_of_mem _ hy, hk⟩)

/-- The numbers seen, of the sites that there are. -/
def sum8 (s : List Int) : Int := sumTo (fun i => geti s (i : Int)) 8
theorem sum8_step {s : List Int} {d : DrD} (h : mayD own s d = true) (h0 : 0 ≤ d.r.site) (h1 : d.r.site ≤ 7) : sum8 (seenT own s d) = sum8 s + 1 := by
  obtain ⟨k, hk⟩ := Int.eq_ofNat_of_zero_le h0
  have hg := fun j => seenT_get h h0 (by omega) j
  have hk7 : k ≤ 7 := by omega
  rw [hk] at hg
  unfold sum8
  simp only [sumTo, hg]
  match k, hk7 with
  | 0, _ => simp; omega
  | 1, _ => simp; omega
  | 2, _ => simp; omega
  | 3, _ => simp; omega
  | 4, _ => simp; omega
  | 5, _ => simp; omega
  | 6, _ => simp; omega
  | 7, _ => simp; omega
theorem adm_sum : ∀ (n : Nat) (s : List Int) (l : List DrD), (∀ d ∈ l, 0 ≤ d.r.site ∧ d.r.site ≤ 7) → sum8 (admT own n s l).1 = sum8 s + ((admT own n s l).2.2.length : Int)
  | 0, s, l, _ => by simp [admT]
  | n + 1, s, l, h => by
    unfold admT
    cases hf : l.find? (mayD own s) with
    | none => simp
    | some x =>
      obtain ⟨hx, hm, -⟩ := find_out hf
      have := adm_sum n (seenT own s x) (outT own s l) fun d hd => h d (outT_mem hf d hd)
      dsimp only
      rw [this, sum8_step hm (h x hx).1 (h x hx).2, List.length_cons]
      omega
end

theorem slotsT_length : ∀ (p : Int) (l : List DrD), (slotsT p l).length = l.length
  | _, [] => rfl
  | p, d :: l => by simp [slotsT, slotsT_length (p + 1) l]
theorem slotsT_get : ∀ (p : Int) (l : List DrD) (j : Nat) (h : j < (slotsT p l).length), (slotsT p l)[j] = (p + (j : Int), l[j]'(by rw [slotsT_length] at h; exact h))
  | p, d :: l, 0, _ => by simp [slotsT]
  | p, d :: l, j + 1, h => by
    have h' : j < (slotsT (p + 1) l).length := by simpa [slotsT] using h
    have := slotsT_get (p + 1) l j h'
    simp only [slotsT, List.getElem_cons_succ]
    rw [this, show p + 1 + (j : Int) = p + ((j + 1 : Nat) : Int) by omega]

/-- What is known behind Admit, of a token that was handed drafts of other sites. -/
structure AdmitO (t : TokD) (m : List DrD) (u : TokD) (n : Nat) : Prop where
  own : u.own = t.own
  next : u.next = t.next + (n : Int)
  grow : leT t.seen u.seen
  sub : ∀ d ∈ u.late, d ∈ t.late ++ m
  keeps : ∀ d ∈ t.late ++ m, d.r.seq ≤ geti u.seen d.r.site ∨ ∃ x ∈ u.late, keyEq x d
  least : ∀ (S : List Int) (all : List DrD), (∀ d ∈ all, mayD t.own S d = false) → othersT t.own all → (∀ d ∈ t.late ++ m, d ∈ all) → leT t.seen S → leT u.seen S
  sum : sum8 u.seen = sum8 t.seen + (n : Int)
/-- .. and of what is left. -/
structure LeftO (u : TokD) : Prop where
  not : ∀ d ∈ u.late, mayD u.own u.seen d = false
  above : ∀ d ∈ u.late, geti u.seen d.r.site < d.r.seq
  apart : u.late.Pairwise fun a b => ¬ keyEq a b
theorem admit_others (t : TokD) (m : List DrD) (ho : othersT t.own (t.late ++ m)) : AdmitO t m (admitT t m).1 (admitT t m).2.length ∧ LeftO (admitT t m).1 := by
  have hsub := adm_left (own := t.own) (t.late ++ m).length t.seen (t.late ++ m)
  have hlm := late_mem (own := t.own) (admT t.own (t.late ++ m).length t.seen (t.late ++ m)).1 [] (admT t.own (t.late ++ m).length t.seen (t.late ++ m)).2.1
  have hend := adm_end (own := t.own) (t.late ++ m).length t.seen (t.late ++ m) (Nat.le_refl _)
  have hk := adm_keeps (own := t.own) (t.late ++ m).length t.seen (t.late ++ m) ho
  have hlk := late_keeps (own := t.own) (admT t.own (t.late ++ m).length t.seen (t.late ++ m)).1 [] (admT t.own (t.late ++ m).length t.seen (t.late ++ m)).2.1 fun d hd => (ho d (hsub d hd)).1
  obtain ⟨g1, g2⟩ := late_good (own := t.own) (admT t.own (t.late ++ m).length t.seen (t.late ++ m)).1 [] (admT t.own (t.late ++ m).length t.seen (t.late ++ m)).2.1
  have hgrow := adm_grow (own := t.own) (t.late ++ m).length t.seen (t.late ++ m) fun d hd => by have := ho d hd; omega
  have hsum := adm_sum (own := t.own) (t.late ++ m).length t.seen (t.late ++ m) fun d hd => (ho d hd).2
  have hleast := fun S all h1 h2 => adm_least (own := t.own) (S := S) (all := all) h1 h2 (t.late ++ m).length t.seen (t.late ++ m)
  unfold admitT
  dsimp only
  generalize (admT t.own (t.late ++ m).length t.seen (t.late ++ m)) = R at *
  refine ⟨⟨rfl, by rw [slotsT_length], hgrow, fun d hd => hsub d (hlm d hd), fun d hd => ?_, hleast, by rw [slotsT_length]; exact hsum⟩, fun d hd => hend d (hlm d hd), fun d hd => ?_, ?_⟩
  · rcases hk d hd with h | h
    · exact .inl h
    · rcases hlk d h with h | ⟨x, hx, -⟩ | h
      · exact .inl h
      · cases hx
      · exact .inr h
  · rcases g1 d hd with ⟨h, -⟩ | ⟨-, h, -⟩
    · exact absurd h (ho d (hsub d (hlm d hd))).1
    · exact h
  · refine List.Pairwise.imp_of_mem (fun {a b} _ hb h => ?_) g2
    exact h (ho b (hsub b (hlm b hb))).1

/-- One after the other. -/
def splitT : TokD → List DrD → TokD × Nat
  | t, [] => (t, 0)
  | t, d :: l => let r := splitT (admitT t [d]).1 l; (r.1, (admitT t [d]).2.length + r.2)
theorem split_others : ∀ (t : TokD) (l : List DrD), othersT t.own (t.late ++ l) → AdmitO t l (splitT t l).1 (splitT t l).2 ∧ (l ≠ [] → LeftO (splitT t l).1)
  | t, [], ho => ⟨⟨rfl, by simp [splitT], leT.refl _, fun d hd => by simpa [splitT] using hd, fun d hd => .inr ⟨d, by simpa [splitT] using hd, rfl, rfl⟩, fun S all h1 h2 h3 h4 => h4, by simp [splitT]⟩, fun h => absurd rfl h⟩
  | t, d :: l, ho => by
    have ho1 : othersT t.own (t.late ++ [d]) := ho.sub fun x hx => by
      rcases List.mem_append.1 hx with h | h
      · exact List.mem_append.2 (.inl h)
      · exact List.mem_append.2 (.inr (by rw [List.mem_singleton.1 h]; exact List.mem_cons_self))
    obtain ⟨A, L⟩ := admit_others t [d] ho1
    have ho2 : othersT (admitT t [d]).1.own ((admitT t [d]).1.late ++ l) := by
      rw [A.own]
      refine ho.sub fun x hx => ?_
      rcases List.mem_append.1 hx with h | h
      · rcases List.mem_append.1 (A.sub x h) with h | h
        · exact List.mem_append.2 (.inl h)
        · exact List.mem_append.2 (.inr (by rw [List.mem_singleton.1 h]; exact List.mem_cons_self))
      · exact List.mem_append.2 (.inr (List.mem_cons_of_mem _ h))
    obtain ⟨A2, L2⟩ := split_others (admitT t [d]).1 l ho2
    have hmem : ∀ x, x ∈ (admitT t [d]).1.late ++ l → x ∈ t.late ++ d :: l := fun x hx => by
      rcases List.mem_append.1 hx with h | h
      · rcases List.mem_append.1 (A.sub x h) with h | h
        · exact List.mem_append.2 (.inl h)
        · exact List.mem_append.2 (.inr (by rw [List.mem_singleton.1 h]; exact List.mem_cons_self))
      · exact List.mem_append.2 (.inr (List.mem_cons_of_mem _ h))
    unfold splitT
    dsimp only
    refine ⟨⟨A2.own.trans A.own, ?_, A.grow.trans A2.grow, fun x hx => hmem x (A2.sub x hx), fun x hx => ?_, fun S all h1 h2 h3 h4 => ?_, ?_⟩, fun _ => ?_⟩
    · rw [A2.next, A.next]
      omega
    · have hx' : x ∈ t.late ++ [d] ∨ x ∈ l := by
        rcases List.mem_append.1 hx with h | h
        · exact .inl (List.mem_append.2 (.inl h))
        · rcases List.mem_cons.1 h with h | h
          · exact .inl (List.mem_append.2 (.inr (List.mem_singleton.2 h)))
          · exact .inr h
      rcases hx' with h | h
      · rcases A.keeps x h with h | ⟨y, hy, hk⟩
        · obtain ⟨-, h0, -⟩ := ho x hx
          obtain ⟨k, hk⟩ := Int.eq_ofNat_of_zero_le h0
          have := A2.grow k
          rw [← hk] at this
          exact .inl (Int.le_trans h this)
        · rcases A2.keeps y (List.mem_append.2 (.inl hy)) with h | ⟨z, hz, hk2⟩
          · exact .inl (by rw [← hk.1, ← hk.2]; exact h)
          · exact .inr ⟨z, hz, hk2.1.trans hk.1, hk2.2.trans hk.2⟩
      · exact A2.keeps x (List.mem_append.2 (.inr h))
    · refine A2.least S all (by rw [A.own]; exact h1) (by rw [A.own]; exact h2) (fun x hx => h3 x (hmem x hx)) (A.least S all h1 h2 (fun x hx => ?_) h4)
      rcases List.mem_append.1 hx with h | h
      · exact h3 x (List.mem_append.2 (.inl h))
      · exact h3 x (List.mem_append.2 (.inr (by rw [List.mem_singleton.1 h]; exact List.mem_cons_self)))
    · rw [A2.sum, A.sum]
      omega
    · cases l with
      | nil => exact L
      | cons y l => exact L2 (by simp)

/-- Rows of keys, each once, that all stand in another row are no more than that. -/
theorem keys_le : ∀ (a b : List DrD), (a.Pairwise fun x y => ¬ keyEq x y) → (∀ x ∈ a, ∃ y ∈ b, keyEq y x) → a.length ≤ b.length
  | [], b, _, _ => Nat.zero_le _
  | x :: a, b, hp, h => by
    rw [List.pairwise_cons] at hp
    obtain ⟨y, hy, hk⟩ := h x List.mem_cons_self
    obtain ⟨b1, b2, rfl⟩ := List.append_of_mem hy
    have := keys_le a (b1 ++ b2) hp.2 fun z hz => by
      obtain ⟨w, hw, hkw⟩ := h z (List.mem_cons_of_mem _ hz)
      have hne : w ≠ y := by
        rintro rfl
        exact hp.1 z hz ⟨hk.1.symm.trans hkw.1, hk.2.symm.trans hkw.2⟩
      refine ⟨w, ?_, hkw⟩
      rcases List.mem_append.1 hw with h | h
      · exact List.mem_append.2 (.inl h)
      · rcases List.mem_cons.1 h with h | h
        · exact absurd h hne
        · exact List.mem_append.2 (.inr h)
    simp at this ⊢
    omega

/-- At once or one after the other: the same. -/
theorem split_same (t : TokD) (l : List DrD) (ho : othersT t.own (t.late ++ l)) (hne : l ≠ []) (hu : ∀ x ∈ t.late ++ l, ∀ y ∈ t.late ++ l, keyEq x y → everyB eqB x.r.dep y.r.dep = true) :
    (splitT t l).2 = (admitT t l).2.length ∧ everyB eqB (admitT t l).1.seen (splitT t l).1.seen = true ∧ (admitT t l).1.next = (splitT t l).1.next ∧ (admitT t l).1.late.length = (splitT t l).1.late.length := by
  obtain ⟨A, L⟩ := admit_others t l ho
  obtain ⟨A2, L2⟩ := split_others t l ho
  have L2 := L2 hne
  have shut : ∀ (u : TokD) (n : Nat), AdmitO t l u n → LeftO u → ∀ d ∈ t.late ++ l, mayD t.own u.seen d = false := fun u n hA hL d hd => by
    obtain ⟨o1, o2, o3⟩ := ho d hd
    rcases hA.keeps d hd with h | ⟨x, hx, hk⟩
    · cases hm : mayD t.own u.seen d with
      | false => rfl
      | true =>
        have := ((may_other o1).1 hm).1
        omega
    · have hxm := hA.sub x hx
      have hno := hL.not x hx
      rw [hA.own] at hno
      cases hm : mayD t.own u.seen d with
      | false => rfl
      | true =>
        obtain ⟨q1, q2⟩ := (may_other o1).1 hm
        have hsame := hu x hxm d hd hk
        rw [same_cov] at hsame
        simp only [Bool.and_eq_true] at hsame
        have q3 : everyB covB u.seen x.r.dep = true := by
          rw [cov_geti] at q2 ⊢
          have := hsame.2
          rw [cov_geti] at this
          exact fun i => Int.le_trans (this i) (q2 i)
        have : mayD t.own u.seen x = true := (may_other (ho x hxm).1).2 ⟨by rw [hk.1, hk.2]; exact q1, q3⟩
        rw [hno] at this
        cases this
  have e1 : leT (admitT t l).1.seen (splitT t l).1.seen := A.least _ _ (shut _ _ A2 L2) ho (fun _ h => h) A2.grow
  have e2 : leT (splitT t l).1.seen (admitT t l).1.seen := A2.least _ _ (shut _ _ A L) ho (fun _ h => h) A.grow
  have e : ∀ i : Nat, geti (admitT t l).1.seen (i : Int) = geti (splitT t l).1.seen (i : Int) := fun i => Int.le_antisymm (e1 i) (e2 i)
  have es : sum8 (admitT t l).1.seen = sum8 (splitT t l).1.seen := sumTo_congr (fun i => e i) 8
  have hn : (splitT t l).2 = (admitT t l).2.length := by
    have := A.sum
    have := A2.sum
    omega
  refine ⟨hn, ?_, by rw [A.next, A2.next, hn], ?_⟩
  · rw [same_iff]
    intro i
    have := e i
    rwa [geti_nat, geti_nat] at this
  · have half : ∀ (u v : TokD) (n k : Nat), AdmitO t l u n → AdmitO t l v k → LeftO u → (∀ i : Nat, geti u.seen (i : Int) = geti v.seen (i : Int)) → u.late.length ≤ v.late.length := fun u v n k hA hB hL he => by
      refine keys_le _ _ hL.apart fun x hx => ?_
      have hxm := hA.sub x hx
      rcases hB.keeps x hxm with h | h
      · obtain ⟨-, h0, -⟩ := ho x hxm
        obtain ⟨j, hj⟩ := Int.eq_ofNat_of_zero_le h0
        have h1 := hL.above x hx
        have h2 := he j
        rw [← hj] at h2
        omega
      · exact h
    exact Nat.le_antisymm (half _ _ _ _ A A2 L e) (half _ _ _ _ A2 A L2 fun i => (e i).symm)

end Go.Proofs.Ytdkpbfigjdmfpaa

/- What Admit has done so far, as plain data. Own work; no statement. -/
set_option linter.unusedSimpArgs false
set_option linter.unusedVariables false
namespace Go.Proofs.Ytdkpbfigjdmfpaa
open Go.RowKit

theorem slotsT_snoc (d : DrD) : ∀ (p : Int) (l : List DrD), slotsT p (l ++ [d]) = slotsT p l ++ [(p + (l.length : Int), d)]
  | p, [] => by simp [slotsT]
  | p, x :: l => by
    rw [List.cons_append, slotsT, slotsT, slotsT_snoc d (p + 1) l, List.cons_append, List.length_cons]
    congr 4
    omega

/-- So far: s is seen, l left; what was put has these slots; the rest comes to what all comes to. -/
structure AdmP (own next0 : Int) (seen0 : List Int) (L0 : List DrD) (next : Int) (s : List Int) (l : List DrD) (sd : List (Int × DrD)) (put : List DrD) : Prop where
  all : admT own L0.length seen0 L0 = ((admT own l.length s l).1, (admT own l.length s l).2.1, put ++ (admT own l.length s l).2.2)
  slots : sd = slotsT next0 put
  next : next = next0 + (put.length : Int)
  count : put.length + l.length = L0.length
  seen : SeenOk s
  ok : ∀ d ∈ l, DrOk d
  sub : ∀ d ∈ l, d ∈ L0
theorem AdmP.start {own next0 : Int} {seen0 : List Int} {L0 : List DrD} (hs : SeenOk seen0) (hd : ∀ d ∈ L0, DrOk d) : AdmP own next0 seen0 L0 next0 seen0 L0 [] [] :=
  ⟨by simp, rfl, by simp, by simp, hs, hd, fun d h => h⟩
theorem find_at {α : Type} {p : α → Bool} {l : List α} (i : Nat) (hi : i < l.length) (hno : ∀ j (hj : j < l.length), j < i → p l[j] = false) (hp : p l[i] = true) : l.find? p = some l[i] ∧ l.findIdx p = i := by
  constructor
  · rw [List.find?_eq_some_iff_getElem]
    exact ⟨hp, i, hi, rfl, fun j hj => by simpa using hno j (by omega) hj⟩
  · rw [List.findIdx_eq hi]
    exact ⟨hp, fun j hj => by simpa using hno j (by omega) hj⟩
theorem AdmP.step {own next0 : Int} {seen0 : List Int} {L0 : List DrD} {next : Int} {s : List Int} {l : List DrD} {sd : List (Int × DrD)} {put : List DrD} (h : AdmP own next0 seen0 L0 next s l sd put) (i : Nat) (hi : i < l.length) (hno : ∀ j (hj : j < l.length), j < i → mayD own s l[j] = false) (hp : mayD own s l[i] = true) :
    AdmP own next0 seen0 L0 (next + 1) (seenT own s l[i]) (l.eraseIdx i) (sd ++ [(next, putT own s l[i])]) (put ++ [putT own s l[i]]) := by
  obtain ⟨f1, f2⟩ := find_at i hi hno hp
  have hout : outT own s l = l.eraseIdx i := by unfold outT; rw [f2]
  have hlen : (l.eraseIdx i).length = l.length - 1 := by rw [List.length_eraseIdx, if_pos hi]
  have hstep : admT own l.length s l = ((admT own (l.eraseIdx i).length (seenT own s l[i]) (l.eraseIdx i)).1, (admT own (l.eraseIdx i).length (seenT own s l[i]) (l.eraseIdx i)).2.1, putT own s l[i] :: (admT own (l.eraseIdx i).length (seenT own s l[i]) (l.eraseIdx i)).2.2) := by
    have e : l.length = (l.eraseIdx i).length + 1 := by omega
    conv => lhs; rw [e]; unfold admT; rw [f1]; dsimp only; rw [hout]
  refine ⟨?_, ?_, ?_, ?_, h.seen.put (h.ok _ (List.getElem_mem hi)) hp, fun d hd => h.ok d (List.mem_of_mem_eraseIdx hd), fun d hd => h.sub d (List.mem_of_mem_eraseIdx hd)⟩
  · rw [h.all, hstep]
    simp
  · rw [slotsT_snoc, h.slots, h.next]
  · rw [h.next, List.length_append, List.length_singleton]
    omega
  · have := h.count
    rw [hlen, List.length_append, List.length_singleton]
    omega
theorem AdmP.fin {own next0 : Int} {seen0 : List Int} {late m : List DrD} {next : Int} {s : List Int} {l : List DrD} {sd : List (Int × DrD)} {put : List DrD} (h : AdmP own next0 seen0 (late ++ m) next s l sd put) (hno : ∀ j (hj : j < l.length), mayD own s l[j] = false) :
    admitT ⟨own, next0, seen0, late⟩ m = (⟨own, next, s, lateT own s [] l⟩, sd) := by
  have hn : admT own l.length s l = (s, l, []) := adm_none _ fun d hd => by
    obtain ⟨j, hj, rfl⟩ := List.getElem_of_mem hd
    exact hno j hj
  unfold admitT
  dsimp only
  rw [h.all, hn]
  dsimp only
  rw [List.append_nil, h.slots, h.next]

end Go.Proofs.Ytdkpbfigjdmfpaa
