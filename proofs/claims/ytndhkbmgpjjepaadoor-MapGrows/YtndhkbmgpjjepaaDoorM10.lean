/- A sequence that makes memory between the rounds while those who range over it make theirs: who may touch what. Own work; no statement. -/
import Derived.Test.YtndhkbmgpjjepaaDoorM9
set_option linter.unusedSimpArgs false
set_option linter.unusedVariables false
namespace Go.Proofs.YtndhkbmgpjjepaaDoor
open Go.RowKit Go.Shelf

/-- From A to C nothing but blocks of T has changed from B on; what is no cells lies as it lay; T' has no older block that T had not. -/
structure KT (B : Nat) (T : Nat → Prop) (A : World) (T' : Nat → Prop) (C : World) : Prop where
  keep : KeepsFrom B A C
  same : ∀ b, B ≤ b → b < A.heap.size → ¬ T b → C.heap[b]? = A.heap[b]?
  old : ∀ b, b < A.heap.size → T' b → T b
theorem KT.refl (B : Nat) (T : Nat → Prop) (A : World) : KT B T A T A := ⟨KeepsFrom.refl _ _, fun _ _ _ _ => rfl, fun _ _ h => h⟩
theorem KT.trans {B : Nat} {T T' T'' : Nat → Prop} {X Y Z : World} (h : KT B T X T' Y) (k : KT B T' Y T'' Z) : KT B T X T'' Z :=
  ⟨h.keep.trans k.keep, fun b hB hb hT => (k.same b hB (Nat.lt_of_lt_of_le hb h.keep.size) fun e => hT (h.old b hb e)).trans (h.same b hB hb hT), fun b hb e => h.old b hb (k.old b (Nat.lt_of_lt_of_le hb h.keep.size) e)⟩
theorem KT.mono {B B' : Nat} {T T' : Nat → Prop} {X Y : World} (h : KT B T X T' Y) (hB : B ≤ B') : KT B' T X T' Y :=
  ⟨⟨h.keep.size, fun k o hk => h.keep.same k o (Nat.le_trans hB hk)⟩, fun b hb => h.same b (Nat.le_trans hB hb), h.old⟩
theorem KT.own {β : Type} {B B' : Nat} {T : Nat → Prop} {X : World} (hB : X.heap.size ≤ B') : OwnFrom B' (fun (s : (Nat → Prop) × β) W => KT B T X s.1 W) := fun _ A C row h hg hr =>
  ⟨ownFrom_keepsFrom (β := Unit) hB () A C row h.keep hg hr, fun b h1 h2 h3 => (hg.block b (Nat.lt_of_lt_of_le h2 h.keep.size) fun e => by have := (hr _ e.symm).1; omega).trans (h.same b h1 h2 h3), h.old⟩
theorem KT.put {B l : Nat} {T : Nat → Prop} {W : World} {o : Obj} (hl : l < B) : KT B T W T (W.putObj l o) :=
  have e : ∀ k, l ≠ k → (W.putObj l o).heap[k]? = W.heap[k]? := fun k h => World.putObj_heap_other h.symm
  ⟨⟨by simp [World.putObj], fun k o hk h _ => (e k (by omega)).trans h⟩, fun b hb _ _ => e b (by omega), fun _ _ h => h⟩
theorem OwnFrom.up {β : Type} {B B' : Nat} {I : β → World → Prop} (h : OwnFrom B I) (hB : B ≤ B') : OwnFrom B' I := fun s A C row hi hg hr => h s A C row hi hg fun r e => ⟨Nat.le_trans hB (hr r e).1, (hr r e).2⟩

section
variable {α : Type} {P : Program} {n : Nat}

/-- The iterator's contract: it hands over xs, one by one, as long as it is asked; who asks has blocks T of his own, which the iterator lets alone; the iterator's own the other lets alone. -/
def SeqT (n : Nat) (P : Program) (g : Nat) (lb : Array Value) (encs : α → Array Value) (G : Nat → Prop) (xs : List α) (w : World) : Prop :=
  ∀ (l : Nat) (J : Nat → (Nat → Prop) → World → Prop) (Jx : Nat → World → Prop) (W : World), Below w.heap.size w W → (∀ T, OwnFrom W.heap.size (fun k => J k T)) → OwnFrom W.heap.size Jx → (∀ k T A, J k T A → ∀ b, T b → b < A.heap.size) →
    (∀ k (h : k < xs.length) T A, J k T A → YieldAt Fence.wide (n - 1) P l (encs xs[k]) A fun e C => (e = .returned (.bool true) ∧ (∃ T', J (k + 1) T' C ∧ KT W.heap.size T A T' C) ∧ KeepsB G A C) ∨ (e = .returned (.bool false) ∧ Jx k C ∧ KeepsFrom W.heap.size A C)) →
    (∃ T, J 0 T W) → CallsIn Fence.wide n P g (#[.func (.yield l) #[] #[]] ++ lb) W fun e B => (∃ v, e = .returned v) ∧ ((∃ T, J xs.length T B) ∨ ∃ k, k < xs.length ∧ Jx k B)

/-- How the body of a round may be left. -/
def postT (B : Nat) (G : Nat → Prop) (I : Nat → (Nat → Prop) → World → Prop) (Ix : Code → Nat → World → Prop) (k : Nat) (T : Nat → Prop) (W : World) : Exit → Act → World → Prop
  | .normal, _, W' => (∃ T', I (k + 1) T' W' ∧ KT B T W T' W') ∧ KeepsB G W W'
  | .ret, _, W' => KeepsFrom B W W' ∧ Ix .ret k W'
  | .exit id, _, W' => KeepsFrom B W W' ∧ Ix (.exit id) k W'
  | .goto t, _, W' => KeepsFrom B W W' ∧ Ix (.goto t) k W'
  | .panic _, _, _ => False
  | .outgrown, _, _ => False

theorem range_lawT {g : Operand} {ps : Array Tmp} {assign body : Code} {Q : Exit → Act → World → Prop} {a : Act} {w : World} (h1 : 1 ≤ n) {gf : Nat} {lb : Array Value} (hg : a.eval g = .func (.func gf) #[] lb)
    (eg : ∀ args w, (callFunc gf args).run P w = .ok (.enter gf args) w) {encs : α → Array Value} {G : Nat → Prop} {xs : List α} (hseq : SeqT (n - 1) P gf lb encs G xs w) (hG : ∀ b, G b → b < w.heap.size)
    (hps : ∀ x, (encs x).size = ps.size)
    (I : Nat → (Nat → Prop) → World → Prop) (Ix : Code → Nat → World → Prop) (hI : ∀ T, OwnFrom w.heap.size (fun k => I k T)) (hIT : ∀ k T W, I k T W → ∀ b, T b → b < W.heap.size) (hIx : ∀ c, OwnFrom w.heap.size (Ix c))
    (h0 : ∃ T, I 0 T w) (a₁ : α → Act)
    (hassign : ∀ (l : Nat) (x : α) (W : World) (K : Act → World → Prop), K (a₁ x) W →
      assign.wpIn (Fence.wide.inRound l) (n - 1 - 1) P (Exit.then K (fun _ _ _ => False)) { tmps := (ps.zip (encs x)).foldl (fun t (p, v) => t.setIfInBounds p v) a.tmps, defers := [] } W)
    (hbody : ∀ (l k : Nat) (h : k < xs.length) (T : Nat → Prop) (W : World), I k T W → body.wpIn (Fence.wide.inRound l) (n - 1 - 1) P (postT w.heap.size G I Ix k T W) (a₁ xs[k]) W)
    (hdone : ∀ (D : Nat) (T : Nat → Prop) (W : World), w.heap.size ≤ D → I xs.length T W → W.heap[D]? = some (.deferred (some [])) → Q .normal { a with defers := { target := .collected D, args := #[] } :: a.defers } W)
    (hstop : ∀ (D : Nat) (c : Code) (k : Nat) (W : World), w.heap.size ≤ D → k < xs.length → Ix c k W → W.heap[D]? = some (.deferred (some [])) → c.wpIn Fence.wide n P Q { a with defers := { target := .collected D, args := #[] } :: a.defers } W) :
    (Code.rangeFunc g ps assign body).wpIn Fence.wide n P Q a w := by
  refine wpIn_rangeFunc fun fn _ => ?_
  generalize hD : w.heap.size = D at *
  let r : Loop := { state := .ready, pending := none, fn, tmps := a.tmps, params := ps, assign, body, defers := D }
  let w1 : World := (w.alloc (.deferred (some []))).alloc (.loop r)
  have bk1 : Book D r w1 := by
    refine ⟨?_, ?_⟩
    · have := World.alloc_heap_new (w.alloc (.deferred (some []))) (.loop r)
      rwa [World.size_alloc, hD] at this
    · have := World.alloc_heap_new w (.deferred (some []))
      rw [hD] at this
      exact (Below.heap_alloc _ _ _ (by simp; omega)).trans this
  have hs1 : w1.heap.size = D + 2 := by simp [w1, hD]
  obtain ⟨T0, h0⟩ := h0
  have i1 : I 0 T0 w1 := (hI T0).alloc _ ((hI T0).alloc _ h0)
  have b1 : Below w.heap.size w w1 := ((Below.refl _ w).alloc (Nat.le_refl _) _).alloc (by simp) _
  refine ⟨D + 1, [{ target := .collected D, args := #[] }], w1, { target := .fn (.func gf) lb, args := #[.func (.yield (D + 1)) #[] #[]] }, w1, gf, #[.func (.yield (D + 1)) #[] #[]] ++ lb, w1, ?_, ?_, fun _ _ => trivial, ?_, fun _ => h1, ?_⟩
  · rw [← hD]
    have := run_enterLoop_outer (P := P) (w := w) fn a.tmps ps assign body
    simp only [w1, r, ← hD]
    exact this
  · simp only [resolve, hg]
    simp [go_sem]
  · simp [invoke, go_sem, eg]
  · refine (hseq (D + 1) (fun k T W => I k T W ∧ Book D r W) (fun k W => ∃ c, Ix c k W ∧ Book D { r with state := .done, pending := some c } W) w1 b1
      (fun T s X Y row h hg hr => ⟨hI T s X Y row h.1 hg (fun q e => ⟨by have := (hr q e).1; omega, (hr q e).2⟩), book_own (β := Unit) () X Y row h.2 hg (fun q e => ⟨by have := (hr q e).1; omega, (hr q e).2⟩)⟩)
      (fun s X Y row h hg hr => let ⟨c, h1, h2⟩ := h; ⟨c, hIx c s X Y row h1 hg (fun q e => ⟨by have := (hr q e).1; omega, (hr q e).2⟩), book_own (β := Unit) () X Y row h2 hg (fun q e => ⟨by have := (hr q e).1; omega, (hr q e).2⟩)⟩)
      (fun k T A h => hIT k T A h.1) ?_ ⟨T0, i1, bk1⟩).mono ?_
    · rintro k hk T W ⟨hi, hb⟩
      refine ⟨fn, _, assign, body, run_yield hb.1 (hps xs[k]), roundIn_of_wpIn trivial (hassign _ xs[k] W _ ⟨_, run_beginRound hb.1 rfl, ?_⟩)⟩
      have hb2 := hb.put { r with state := .busy }
      have k2 : KT w1.heap.size T W T (W.putObj (D + 1) (.loop { r with state := .busy })) := KT.put (by omega)
      have g2 : KeepsB G W (W.putObj (D + 1) (.loop { r with state := .busy })) := keepsB_b hG _ _ _ _ (by omega) hb.1 rfl rfl
      refine wpIn_mono (hbody _ k hk T _ ((hI T).putObj _ hi (by omega) hb.1 rfl)) fun e a3 W3 hp => ?_
      have left : ∀ c, KeepsFrom D (W.putObj (D + 1) (.loop { r with state := .busy })) W3 → Ix c k W3 → ∃ v W4, (Instr.endRound (D + 1) (some c)).run P W3 = .ok v W4 ∧ ((Ending.returned v = .returned (.bool true) ∧ (∃ T', (I (k + 1) T' W4 ∧ Book D r W4) ∧ KT w1.heap.size T W T' W4) ∧ KeepsB G W W4) ∨ (Ending.returned v = .returned (.bool false) ∧ (∃ c, Ix c k W4 ∧ Book D { r with state := .done, pending := some c } W4) ∧ KeepsFrom w1.heap.size W W4)) := fun c hk' hi3 => by
        obtain ⟨hr, hl, hb4⟩ := round_end (P := P) hb2 (some c) hk'
        exact ⟨_, _, hr, .inr ⟨rfl, ⟨c, (hIx c).putObj _ hi3 (by omega) hl rfl, hb4⟩, (k2.keep.trans ⟨hk'.size, fun k o h => hk'.same k o (by omega)⟩).trans (KT.put (T := T) (by omega)).keep⟩⟩
      cases e with
      | normal =>
        obtain ⟨⟨T', hi3, hkt⟩, hkg⟩ := hp
        obtain ⟨hr, hl, hb4⟩ := round_end (P := P) hb2 none hkt.keep
        exact ⟨_, _, hr, .inl ⟨rfl, ⟨T', ⟨(hI T').putObj _ hi3 (by omega) hl rfl, hb4⟩, (k2.trans (hkt.mono (by omega))).trans (KT.put (by omega))⟩, keepsB_t (keepsB_t g2 hkg) (keepsB_b hG _ _ _ _ (by omega) hl rfl rfl)⟩⟩
      | ret => exact left _ hp.1 hp.2
      | exit id => exact left _ hp.1 hp.2
      | goto t => exact left _ hp.1 hp.2
      | panic _ => exact hp.elim
      | outgrown => exact hp.elim
    · rintro e W2 ⟨⟨v, rfl⟩, (⟨T, hi, hb⟩ | ⟨k, hk, c, hi, hb⟩)⟩
      · exact ⟨none, _, run_endLoop hb.1 (by simp [r]), hdone _ T _ (Nat.le_refl _) ((hI T).putObj _ hi (by omega) hb.1 rfl) (hb.put _).2⟩
      · exact ⟨some c, _, run_endLoop hb.1 (by simp), hstop _ c k _ (Nat.le_refl _) hk ((hIx c).putObj _ hi (by omega) hb.1 rfl) (hb.put _).2⟩
end

end Go.Proofs.YtndhkbmgpjjepaaDoor
