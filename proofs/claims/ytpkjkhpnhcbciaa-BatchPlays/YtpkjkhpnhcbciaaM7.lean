/- Ranges over functions that stand in each other: a sequence that goes over others, each round within a round. Own work; no statement. -/
import Derived.Test.YtpkjkhpnhcbciaaRangeL
import Derived.Test.YtpkjkhpnhcbciaaD1
set_option linter.unusedSimpArgs false
set_option linter.unusedVariables false
namespace Go.Proofs.Ytpkjkhpnhcbciaa
open Go.RowKit Go.Shelf

section
variable {α : Type} {P : Program} {n : Nat}

theorem room_wide' (k : Nat) : Fence.wide.room k := fun _ h => by cases h
theorem yield_any {m : Nat} (m' : Nat) {l : Nat} {args : Array Value} {W : World} {R : Ending → World → Prop} (h : YieldAt Fence.wide m P l args W R) : YieldAt Fence.wide m' P l args W R := by
  obtain ⟨fn, tmps, assign, body, hy, hR⟩ := h
  exact ⟨fn, tmps, assign, body, hy, hR.1, fun c cs _ => hR.2 c cs (room_wide' _)⟩

/-- The iterator's contract: it hands over xs, one by one, as long as it is asked; it makes memory of its own between. -/
def SeqO (n : Nat) (P : Program) (g : Nat) (lb : Array Value) (encs : α → Array Value) (Kp : World → World → Prop) (xs : List α) (w : World) : Prop :=
  ∀ (l : Nat) (J Jx : Nat → World → Prop) (W : World), Below w.heap.size w W → OwnFrom W.heap.size J →
    (∀ k (h : k < xs.length) A, J k A → YieldAt Fence.wide (n - 1) P l (encs xs[k]) A fun e C => (e = .returned (.bool true) ∧ J (k + 1) C ∧ Kp A C) ∨ (e = .returned (.bool false) ∧ Jx k C)) →
    J 0 W → CallsIn Fence.wide n P g (#[.func (.yield l) #[] #[]] ++ lb) W fun e B => (∃ v, e = .returned v) ∧ (J xs.length B ∨ ∃ k, k < xs.length ∧ Jx k B)

theorem book_own {D : Nat} {r : Loop} {β : Type} : OwnFrom (D + 2) (fun (_ : β) W => Book D r W) := fun _ X Y row h hg hr =>
  ⟨(hg.block _ (ltAt h.1) fun e => by have := (hr _ e.symm).1; omega).trans h.1, (hg.block _ (ltAt h.2) fun e => by have := (hr _ e.symm).1; omega).trans h.2⟩

/-- A range over such a function, out of every round; the body is told of its own record. -/
theorem range_lawO {g : Operand} {ps : Array Tmp} {assign body : Code} {Q : Exit → Act → World → Prop} {a : Act} {w : World} (h1 : 1 ≤ n) {gf : Nat} {lb : Array Value} (hg : a.eval g = .func (.func gf) #[] lb)
    (eg : ∀ args w, (callFunc gf args).run P w = .ok (.enter gf args) w) {encs : α → Array Value} {Kp : World → World → Prop} {xs : List α} (hseq : SeqO (n - 1) P gf lb encs Kp xs w)
    (hKt : ∀ {A B C : World}, Kp A B → Kp B C → Kp A C) (hKb : ∀ (W : World) (l : Nat) (o o' : Obj), w.heap.size ≤ l → W.heap[l]? = some o → o.isCells = false → o.isWalk = false → Kp W (W.putObj l o'))
    (hps : ∀ x, (encs x).size = ps.size)
    (I : Nat → World → Prop) (Ix : Code → Nat → World → Prop) (hI : OwnFrom w.heap.size I) (hIx : ∀ c, OwnFrom w.heap.size (Ix c))
    (h0 : I 0 w) (Ax : α → Act → World → Prop) (hAx : ∀ x a', OwnFrom w.heap.size (fun (_ : Unit) W => Ax x a' W))
    (hassign : ∀ (l k : Nat) (h : k < xs.length) (W : World) (K : Act → World → Prop), I k W → (∀ a' W', KeepsFrom w.heap.size W W' → Kp W W' → I k W' → Ax xs[k] a' W' → K a' W') →
      assign.wpIn (Fence.wide.inRound l) (n - 1 - 1) P (Exit.then K (fun _ _ _ => False)) { tmps := (ps.zip (encs xs[k])).foldl (fun t (p, v) => t.setIfInBounds p v) a.tmps, defers := [] } W)
    (hbody : ∀ (l k : Nat) (h : k < xs.length) (a' : Act) (W : World), w.heap.size ≤ l → (∃ r, W.heap[l]? = some (.loop r)) → I k W → Ax xs[k] a' W → body.wpIn (Fence.wide.inRound l) (n - 1 - 1) P (postL w.heap.size Kp I Ix k W) a' W)
    (hdone : ∀ (D : Nat) (W : World), w.heap.size ≤ D → I xs.length W → W.heap[D]? = some (.deferred (some [])) → Q .normal { a with defers := { target := .collected D, args := #[] } :: a.defers } W)
    (hstop : ∀ (D : Nat) (c : Code) (k : Nat) (W : World), w.heap.size ≤ D → k < xs.length → Ix c k W → W.heap[D]? = some (.deferred (some [])) → c.wpIn Fence.wide n P Q { a with defers := { target := .collected D, args := #[] } :: a.defers } W) :
    (Code.rangeFunc g ps assign body).wpIn Fence.wide n P Q a w := by
  refine wpIn_rangeFunc fun fn _ => ?_
  generalize hD : w.heap.size = D at *
  let r : Loop := { state := .ready, pending := none, fn, tmps := a.tmps, params := ps, assign, body, defers := D }
  let w1 : World := (w.alloc (.deferred (some []))).alloc (.loop r)
  have bk1 : Book D r w1 := by
    refine ⟨?_, ?_⟩
    · have := World.alloc_heap_new (w.alloc (.deferred (some []))) (.loop r)
      rwa [World.size_alloc, hD] at this
    · have := World.alloc_heap_new w (.deferred (some []))
      rw [hD] at this
      exact (Below.heap_alloc _ _ _ (by simp; omega)).trans this
  have hs1 : w1.heap.size = D + 2 := by simp [w1, hD]
  have i1 : I 0 w1 := hI.alloc _ (hI.alloc _ h0)
  have b1 : Below w.heap.size w w1 := ((Below.refl _ w).alloc (Nat.le_refl _) _).alloc (by simp) _
  refine ⟨D + 1, [{ target := .collected D, args := #[] }], w1, { target := .fn (.func gf) lb, args := #[.func (.yield (D + 1)) #[] #[]] }, w1, gf, #[.func (.yield (D + 1)) #[] #[]] ++ lb, w1, ?_, ?_, fun _ _ => trivial, ?_, fun _ => h1, ?_⟩
  · rw [← hD]
    have := run_enterLoop_outer (P := P) (w := w) fn a.tmps ps assign body
    simp only [w1, r, ← hD]
    exact this
  · simp only [resolve, hg]
    simp [go_sem]
  · simp [invoke, go_sem, eg]
  · refine (hseq (D + 1) (fun k W => I k W ∧ Book D r W) (fun k W => ∃ c, Ix c k W ∧ Book D { r with state := .done, pending := some c } W) w1 b1
      (fun s X Y row h hg hr => ⟨hI s X Y row h.1 hg (fun q e => ⟨by have := (hr q e).1; omega, (hr q e).2⟩), book_own (β := Unit) () X Y row h.2 hg (fun q e => ⟨by have := (hr q e).1; omega, (hr q e).2⟩)⟩) ?_ ⟨i1, bk1⟩).mono ?_
    · rintro k hk W ⟨hi, hb⟩
      refine ⟨fn, _, assign, body, run_yield hb.1 (hps xs[k]), roundIn_of_wpIn trivial (hassign _ k hk W _ hi fun a' W' hkf hkp hi' hax => ?_)⟩
      have hbW : Book D r W' := hb.from (Nat.le_refl _) hkf
      refine ⟨_, run_beginRound hbW.1 rfl, ?_⟩
      have hb2 := hbW.put { r with state := .busy }
      have k2 : Kp W (W'.putObj (D + 1) (.loop { r with state := .busy })) := hKt hkp (hKb _ _ _ _ (by omega) hbW.1 rfl rfl)
      refine wpIn_mono (hbody _ k hk a' _ (by omega) ⟨_, hb2.1⟩ (hI.putObj _ hi' (by omega) hbW.1 rfl) ((hAx _ a').putObj (s := ()) _ hax (by omega) hbW.1 rfl)) fun e a3 W3 hp => ?_
      have left : ∀ c, KeepsFrom D (W'.putObj (D + 1) (.loop { r with state := .busy })) W3 → Ix c k W3 → ∃ v W4, (Instr.endRound (D + 1) (some c)).run P W3 = .ok v W4 ∧ ((Ending.returned v = .returned (.bool true) ∧ (I (k + 1) W4 ∧ Book D r W4) ∧ Kp W W4) ∨ (Ending.returned v = .returned (.bool false) ∧ ∃ c, Ix c k W4 ∧ Book D { r with state := .done, pending := some c } W4)) := fun c hk' hi3 => by
        obtain ⟨hr, hl, hb4⟩ := round_end (P := P) hb2 (some c) hk'
        exact ⟨_, _, hr, .inr ⟨rfl, c, (hIx c).putObj _ hi3 (by omega) hl rfl, hb4⟩⟩
      cases e with
      | normal =>
        obtain ⟨hk', hkp, hi3⟩ := hp
        obtain ⟨hr, hl, hb4⟩ := round_end (P := P) hb2 none hk'
        exact ⟨_, _, hr, .inl ⟨rfl, ⟨hI.putObj _ hi3 (by omega) hl rfl, hb4⟩, hKt (hKt k2 hkp) (hKb _ _ _ _ (by omega) hl rfl rfl)⟩⟩
      | ret => exact left _ hp.1 hp.2
      | exit id => exact left _ hp.1 hp.2
      | goto t => exact left _ hp.1 hp.2
      | panic _ => exact hp.elim
      | outgrown => exact hp.elim
    · rintro e W2 ⟨⟨v, rfl⟩, (⟨hi, hb⟩ | ⟨k, hk, c, hi, hb⟩)⟩
      · exact ⟨none, _, run_endLoop hb.1 (by simp [r]), hdone _ _ (Nat.le_refl _) (hI.putObj _ hi (by omega) hb.1 rfl) (hb.put _).2⟩
      · exact ⟨some c, _, run_endLoop hb.1 (by simp), hstop _ c k _ (Nat.le_refl _) hk ((hIx c).putObj _ hi (by omega) hb.1 rfl) (hb.put _).2⟩

/-- The same within a round of the loop l₀. -/
theorem range_lawN {l₀ : Nat} {r₀ : Loop} {g : Operand} {ps : Array Tmp} {assign body : Code} {Q : Exit → Act → World → Prop} {a : Act} {w : World} (hl₀ : w.heap[l₀]? = some (.loop r₀)) (h1 : 1 ≤ n) {gf : Nat} {lb : Array Value} (hg : a.eval g = .func (.func gf) #[] lb)
    (eg : ∀ args w, (callFunc gf args).run P w = .ok (.enter gf args) w) {encs : α → Array Value} {Kp : World → World → Prop} {xs : List α} (hseq : SeqO (n - 1) P gf lb encs Kp xs w)
    (hKt : ∀ {A B C : World}, Kp A B → Kp B C → Kp A C) (hKb : ∀ (W : World) (l : Nat) (o o' : Obj), w.heap.size ≤ l → W.heap[l]? = some o → o.isCells = false → o.isWalk = false → Kp W (W.putObj l o'))
    (hps : ∀ x, (encs x).size = ps.size)
    (I : Nat → World → Prop) (Ix : Code → Nat → World → Prop) (hI : OwnFrom w.heap.size I) (hIx : ∀ c, OwnFrom w.heap.size (Ix c))
    (h0 : I 0 w) (a₁ : α → Act)
    (hassign : ∀ (l : Nat) (x : α) (W : World) (K : Act → World → Prop), K (a₁ x) W →
      assign.wpIn (Fence.wide.inRound l) (n - 1 - 1) P (Exit.then K (fun _ _ _ => False)) { tmps := (ps.zip (encs x)).foldl (fun t (p, v) => t.setIfInBounds p v) a.tmps, defers := [] } W)
    (hbody : ∀ (l k : Nat) (h : k < xs.length) (W : World), I k W → body.wpIn (Fence.wide.inRound l) (n - 1 - 1) P (postL w.heap.size Kp I Ix k W) (a₁ xs[k]) W)
    (hdone : ∀ (W : World), I xs.length W → Q .normal a W)
    (hstop : ∀ (c : Code) (k : Nat) (W : World), k < xs.length → Ix c k W → c.wpIn (Fence.wide.inRound l₀) n P Q a W) :
    (Code.rangeFunc g ps assign body).wpIn (Fence.wide.inRound l₀) n P Q a w := by
  refine wpIn_rangeFunc fun fn _ => ?_
  generalize hD : w.heap.size = D at *
  let r : Loop := { state := .ready, pending := none, fn, tmps := a.tmps, params := ps, assign, body, defers := r₀.defers }
  let w1 : World := w.alloc (.loop r)
  have bk1 : w1.heap[D]? = some (.loop r) := by rw [← hD]; exact World.alloc_heap_new w _
  have hs1 : w1.heap.size = D + 1 := by simp [w1, hD]
  have i1 : I 0 w1 := hI.alloc _ h0
  have b1 : Below w.heap.size w w1 := (Below.refl _ w).alloc (Nat.le_refl _) _
  refine ⟨D, [], w1, { target := .fn (.func gf) lb, args := #[.func (.yield D) #[] #[]] }, w1, gf, #[.func (.yield D) #[] #[]] ++ lb, w1, ?_, ?_, fun _ _ => trivial, ?_, fun _ => h1, ?_⟩
  · rw [← hD]
    have := run_enterLoop_inner (P := P) hl₀ fn a.tmps ps assign body
    simp only [w1, r]
    exact this
  · simp only [resolve, hg]
    simp [go_sem]
  · simp [invoke, go_sem, eg]
  · refine (CallsIn.inRound l₀ (hseq D (fun k W => I k W ∧ W.heap[D]? = some (.loop r)) (fun k W => ∃ c, Ix c k W ∧ W.heap[D]? = some (.loop { r with state := .done, pending := some c })) w1 b1
      (fun s X Y row h hg hr => ⟨hI s X Y row h.1 hg (fun q e => ⟨by have := (hr q e).1; omega, (hr q e).2⟩), (hg.block _ (ltAt h.2) fun e => by have := (hr _ e.symm).1; omega).trans h.2⟩) ?_ ⟨i1, bk1⟩)).mono ?_
    · rintro k hk W ⟨hi, hb⟩
      refine ⟨fn, _, assign, body, run_yield hb (hps xs[k]), roundIn_of_wpIn trivial (hassign _ xs[k] W _ ⟨_, run_beginRound hb rfl, ?_⟩)⟩
      have hlt := ltAt hb
      have hb2 : (W.putObj D (.loop { r with state := .busy })).heap[D]? = some (.loop { r with state := .busy }) := World.putObj_heap_same hlt
      have k2 : Kp W (W.putObj D (.loop { r with state := .busy })) := hKb _ _ _ _ (Nat.le_refl _) hb rfl rfl
      refine wpIn_mono (hbody _ k hk _ (hI.putObj _ hi (Nat.le_refl _) hb rfl)) fun e a3 W3 hp => ?_
      have fin : ∀ (jump : Option Code), KeepsFrom D (W.putObj D (.loop { r with state := .busy })) W3 → (Instr.endRound D jump).run P W3 = .ok (.bool jump.isNone) (W3.putObj D (.loop { r with state := if jump.isNone then .ready else .done, pending := jump })) ∧ W3.heap[D]? = some (.loop { r with state := .busy }) ∧
          (W3.putObj D (.loop { r with state := if jump.isNone then .ready else .done, pending := jump })).heap[D]? = some (.loop { r with state := if jump.isNone then .ready else .done, pending := jump }) := fun jump hk' =>
        have hl3 := hk'.same _ _ (Nat.le_refl _) hb2 rfl
        ⟨by have := run_endRound (P := P) jump hl3; exact this, hl3, World.putObj_heap_same (ltAt hl3)⟩
      have left : ∀ c, KeepsFrom D (W.putObj D (.loop { r with state := .busy })) W3 → Ix c k W3 → ∃ v W4, (Instr.endRound D (some c)).run P W3 = .ok v W4 ∧ ((Ending.returned v = .returned (.bool true) ∧ (I (k + 1) W4 ∧ W4.heap[D]? = some (.loop r)) ∧ Kp W W4) ∨ (Ending.returned v = .returned (.bool false) ∧ ∃ c, Ix c k W4 ∧ W4.heap[D]? = some (.loop { r with state := .done, pending := some c }))) := fun c hk' hi3 => by
        obtain ⟨hr, hl, hb4⟩ := fin (some c) hk'
        exact ⟨_, _, hr, .inr ⟨rfl, c, (hIx c).putObj _ hi3 (Nat.le_refl _) hl rfl, hb4⟩⟩
      cases e with
      | normal =>
        obtain ⟨hk', hkp, hi3⟩ := hp
        obtain ⟨hr, hl, hb4⟩ := fin none hk'
        exact ⟨_, _, hr, .inl ⟨rfl, ⟨hI.putObj _ hi3 (Nat.le_refl _) hl rfl, hb4⟩, hKt (hKt k2 hkp) (hKb _ _ _ _ (Nat.le_refl _) hl rfl rfl)⟩⟩
      | ret => exact left _ hp.1 hp.2
      | exit id => exact left _ hp.1 hp.2
      | goto t => exact left _ hp.1 hp.2
      | panic _ => exact hp.elim
      | outgrown => exact hp.elim
    · rintro e W2 ⟨⟨v, rfl⟩, (⟨hi, hb⟩ | ⟨k, hk, c, hi, hb⟩)⟩
      · exact ⟨none, _, run_endLoop hb (by simp [r]), hdone _ (hI.putObj _ hi (Nat.le_refl _) hb rfl)⟩
      · exact ⟨some c, _, run_endLoop hb (by simp), hstop c k _ hk ((hIx c).putObj _ hi (Nat.le_refl _) hb rfl)⟩
end

/-- From A to C nothing but blocks of T has changed from B on; what is no cells lies as it lay; T' has no older block that T had not. -/
structure KT (B : Nat) (T : Nat → Prop) (A : World) (T' : Nat → Prop) (C : World) : Prop where
  keep : KeepsFrom B A C
  same : ∀ b, B ≤ b → b < A.heap.size → ¬ T b → C.heap[b]? = A.heap[b]?
  old : ∀ b, b < A.heap.size → T' b → T b
theorem KT.refl (B : Nat) (T : Nat → Prop) (A : World) : KT B T A T A := ⟨KeepsFrom.refl _ _, fun _ _ _ _ => rfl, fun _ _ h => h⟩
theorem KT.trans {B : Nat} {T T' T'' : Nat → Prop} {X Y Z : World} (h : KT B T X T' Y) (k : KT B T' Y T'' Z) : KT B T X T'' Z :=
  ⟨h.keep.trans k.keep, fun b hB hb hT => (k.same b hB (Nat.lt_of_lt_of_le hb h.keep.size) fun e => hT (h.old b hb e)).trans (h.same b hB hb hT), fun b hb e => h.old b hb (k.old b (Nat.lt_of_lt_of_le hb h.keep.size) e)⟩
theorem KT.mono {B B' : Nat} {T T' : Nat → Prop} {X Y : World} (h : KT B T X T' Y) (hB : B ≤ B') : KT B' T X T' Y :=
  ⟨⟨h.keep.size, fun k o hk => h.keep.same k o (Nat.le_trans hB hk)⟩, fun b hb => h.same b (Nat.le_trans hB hb), h.old⟩
theorem KT.own {β : Type} {B B' : Nat} {T : Nat → Prop} {X : World} (hB : X.heap.size ≤ B') : OwnFrom B' (fun (s : (Nat → Prop) × β) W => KT B T X s.1 W) := fun _ A C row h hg hr =>
  ⟨ownFrom_keepsFrom (β := Unit) hB () A C row h.keep hg hr, fun b h1 h2 h3 => (hg.block b (Nat.lt_of_lt_of_le h2 h.keep.size) fun e => by have := (hr _ e.symm).1; omega).trans (h.same b h1 h2 h3), h.old⟩
theorem KT.put {B l : Nat} {T : Nat → Prop} {W : World} {o : Obj} (hl : l < B) : KT B T W T (W.putObj l o) :=
  have e : ∀ k, l ≠ k → (W.putObj l o).heap[k]? = W.heap[k]? := fun k h => World.putObj_heap_other h.symm
  ⟨⟨by simp [World.putObj], fun k o hk h _ => (e k (by omega)).trans h⟩, fun b hb _ _ => e b (by omega), fun _ _ h => h⟩
theorem OwnFrom.up {β : Type} {B B' : Nat} {I : β → World → Prop} (h : OwnFrom B I) (hB : B ≤ B') : OwnFrom B' I := fun s A C row hi hg hr => h s A C row hi hg fun r e => ⟨Nat.le_trans hB (hr r e).1, (hr r e).2⟩

end Go.Proofs.Ytpkjkhpnhcbciaa
