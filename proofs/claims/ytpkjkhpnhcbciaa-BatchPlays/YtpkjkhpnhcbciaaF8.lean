/- Ranges over functions that take away what they hand over: who asks makes memory, so does who hands over; what is handed over hangs on what was. Own work; no statement. -/
import Derived.Test.YtpkjkhpnhcbciaaM7
set_option linter.unusedSimpArgs false
set_option linter.unusedVariables false
namespace Go.Proofs.Ytpkjkhpnhcbciaa
open Go.RowKit Go.Shelf

section
variable {P : Program} {n : Nat}

/-- The iterator's contract: where k have been handed over the state is St k; a value that Gv k tells is handed over next; it ends where Fin k. It makes new memory alone. -/
def SeqF (n : Nat) (P : Program) (g : Nat) (lb : Array Value) (St : Nat → World → Prop) (Gv : Nat → Value → World → Prop) (Fin : Nat → Prop) (w : World) : Prop :=
  ∀ (l : Nat) (J : Nat → World → Prop) (Jx : World → Prop) (W : World), Below w.heap.size w W → (∀ k A, J k A → St k A) → (∀ k A B, J k A → Below A.heap.size A B → J k B) →
    (∀ k A v, J k A → Gv k v A → YieldAt Fence.wide (n - 1) P l #[v] A fun e C => (e = .returned (.bool true) ∧ J (k + 1) C) ∨ (e = .returned (.bool false) ∧ Jx C)) →
    J 0 W → CallsIn Fence.wide n P g (#[.func (.yield l) #[] #[]] ++ lb) W fun e B => (∃ v, e = .returned v) ∧ ((∃ k, Fin k ∧ J k B) ∨ Jx B)

/-- How the body of a round may be left. -/
def postF (B : Nat) (I : Nat → World → Prop) (Ix : Code → World → Prop) (k : Nat) (W : World) : Exit → Act → World → Prop
  | .normal, _, W' => KeepsFrom B W W' ∧ I (k + 1) W'
  | .ret, _, W' => KeepsFrom B W W' ∧ Ix .ret W'
  | .exit id, _, W' => KeepsFrom B W W' ∧ Ix (.exit id) W'
  | .goto t, _, W' => KeepsFrom B W W' ∧ Ix (.goto t) W'
  | .panic _, _, _ => False
  | .outgrown, _, _ => False

theorem range_lawF {g : Operand} {p : Tmp} {assign body : Code} {Q : Exit → Act → World → Prop} {a : Act} {w : World} (h1 : 1 ≤ n) {gf : Nat} {lb : Array Value} (hg : a.eval g = .func (.func gf) #[] lb)
    (eg : ∀ args w, (callFunc gf args).run P w = .ok (.enter gf args) w) {St : Nat → World → Prop} {Gv : Nat → Value → World → Prop} {Fin : Nat → Prop} (hseq : SeqF (n - 1) P gf lb St Gv Fin w)
    (I : Nat → World → Prop) (Ix : Code → World → Prop) (hIS : ∀ k W, I k W → St k W) (hIb : ∀ k A B, I k A → Below A.heap.size A B → I k B) (hI : OwnFrom w.heap.size I) (hIx : OwnFrom w.heap.size Ix) (hG : ∀ v, OwnFrom w.heap.size fun k => Gv k v)
    (hGb : ∀ k v A B, Gv k v A → Below A.heap.size A B → Gv k v B)
    (h0 : I 0 w) (Ax : Value → Act → World → Prop) (hAx : ∀ v a', OwnFrom w.heap.size (fun (_ : Unit) W => Ax v a' W))
    (hassign : ∀ (l k : Nat) (v : Value) (W : World) (K : Act → World → Prop), I k W → Gv k v W → (∀ a' W', Below W.heap.size W W' → Ax v a' W' → K a' W') →
      assign.wpIn (Fence.wide.inRound l) (n - 1 - 1) P (Exit.then K (fun _ _ _ => False)) { tmps := ((#[p] : Array Tmp).zip #[v]).foldl (fun t (p, v) => t.setIfInBounds p v) a.tmps, defers := [] } W)
    (hbody : ∀ (l k : Nat) (v : Value) (a' : Act) (W : World), w.heap.size ≤ l → (∃ r, W.heap[l]? = some (.loop r)) → I k W → Gv k v W → Ax v a' W → body.wpIn (Fence.wide.inRound l) (n - 1 - 1) P (postF w.heap.size I Ix k W) a' W)
    (hdone : ∀ (D k : Nat) (W : World), w.heap.size ≤ D → Fin k → I k W → W.heap[D]? = some (.deferred (some [])) → Q .normal { a with defers := { target := .collected D, args := #[] } :: a.defers } W)
    (hstop : ∀ (D : Nat) (c : Code) (W : World), w.heap.size ≤ D → Ix c W → W.heap[D]? = some (.deferred (some [])) → c.wpIn Fence.wide n P Q { a with defers := { target := .collected D, args := #[] } :: a.defers } W) :
    (Code.rangeFunc g #[p] assign body).wpIn Fence.wide n P Q a w := by
  refine wpIn_rangeFunc fun fn _ => ?_
  generalize hD : w.heap.size = D at *
  let r : Loop := { state := .ready, pending := none, fn, tmps := a.tmps, params := #[p], assign, body, defers := D }
  let w1 : World := (w.alloc (.deferred (some []))).alloc (.loop r)
  have bk1 : Book D r w1 := by
    refine ⟨?_, ?_⟩
    · have := World.alloc_heap_new (w.alloc (.deferred (some []))) (.loop r)
      rwa [World.size_alloc, hD] at this
    · have := World.alloc_heap_new w (.deferred (some []))
      rw [hD] at this
      exact (Below.heap_alloc _ _ _ (by simp; omega)).trans this
  have i1 : I 0 w1 := hI.alloc _ (hI.alloc _ h0)
  have b1 : Below w.heap.size w w1 := ((Below.refl _ w).alloc (Nat.le_refl _) _).alloc (by simp) _
  refine ⟨D + 1, [{ target := .collected D, args := #[] }], w1, { target := .fn (.func gf) lb, args := #[.func (.yield (D + 1)) #[] #[]] }, w1, gf, #[.func (.yield (D + 1)) #[] #[]] ++ lb, w1, ?_, ?_, fun _ _ => trivial, ?_, fun _ => h1, ?_⟩
  · rw [← hD]
    have := run_enterLoop_outer (P := P) (w := w) fn a.tmps #[p] assign body
    simp only [w1, r, ← hD]
    exact this
  · simp only [resolve, hg]
    simp [go_sem]
  · simp [invoke, go_sem, eg]
  · refine (hseq (D + 1) (fun k W => I k W ∧ Book D r W) (fun W => ∃ c, Ix c W ∧ Book D { r with state := .done, pending := some c } W) w1 b1 (fun k A h => hIS k A h.1)
      (fun k A B h hb => ⟨hIb k A B h.1 hb, (hb.block _ (ltAt h.2.1)).trans h.2.1, (hb.block _ (ltAt h.2.2)).trans h.2.2⟩) ?_ ⟨i1, bk1⟩).mono ?_
    · rintro k W v ⟨hi, hb⟩ hv
      refine ⟨fn, _, assign, body, run_yield hb.1 (by simp [r]), roundIn_of_wpIn trivial (hassign _ k v W _ hi hv fun a' W' hbe hax => ?_)⟩
      have hbW : Book D r W' := ⟨(hbe.block _ (ltAt hb.1)).trans hb.1, (hbe.block _ (ltAt hb.2)).trans hb.2⟩
      refine ⟨_, run_beginRound hbW.1 rfl, ?_⟩
      have hb2 := hbW.put { r with state := .busy }
      refine wpIn_mono (hbody _ k v a' _ (by omega) ⟨_, hb2.1⟩ (hI.putObj _ (hIb _ _ _ hi hbe) (by omega) hbW.1 rfl) ((hG v).putObj (s := k) _ (hGb _ _ _ _ hv hbe) (by omega) hbW.1 rfl) ((hAx v a').putObj (s := ()) _ hax (by omega) hbW.1 rfl)) fun e a3 W3 hp => ?_
      have left : ∀ c, KeepsFrom D (W'.putObj (D + 1) (.loop { r with state := .busy })) W3 → Ix c W3 → ∃ v W4, (Instr.endRound (D + 1) (some c)).run P W3 = .ok v W4 ∧ ((Ending.returned v = .returned (.bool true) ∧ (I (k + 1) W4 ∧ Book D r W4)) ∨ (Ending.returned v = .returned (.bool false) ∧ ∃ c, Ix c W4 ∧ Book D { r with state := .done, pending := some c } W4)) := fun c hk' hi3 => by
        obtain ⟨hr, hl, hb4⟩ := round_end (P := P) hb2 (some c) hk'
        exact ⟨_, _, hr, .inr ⟨rfl, c, hIx.putObj _ hi3 (by omega) hl rfl, hb4⟩⟩
      cases e with
      | normal =>
        obtain ⟨hk', hi3⟩ := hp
        obtain ⟨hr, hl, hb4⟩ := round_end (P := P) hb2 none hk'
        exact ⟨_, _, hr, .inl ⟨rfl, ⟨hI.putObj _ hi3 (by omega) hl rfl, hb4⟩⟩⟩
      | ret => exact left _ hp.1 hp.2
      | exit id => exact left _ hp.1 hp.2
      | goto t => exact left _ hp.1 hp.2
      | panic _ => exact hp.elim
      | outgrown => exact hp.elim
    · rintro e W2 ⟨⟨v, rfl⟩, (⟨k, hfin, hi, hb⟩ | ⟨c, hi, hb⟩)⟩
      · exact ⟨none, _, run_endLoop hb.1 (by simp [r]), hdone _ k _ (Nat.le_refl _) hfin (hI.putObj _ hi (by omega) hb.1 rfl) (hb.put _).2⟩
      · exact ⟨some c, _, run_endLoop hb.1 (by simp), hstop _ c _ (Nat.le_refl _) (hIx.putObj _ hi (by omega) hb.1 rfl) (hb.put _).2⟩

/-- The outer iterator's contract: who asks has blocks T of his own, and lets the iterator's alone (Kp); the iterator turns blocks of X, and makes new memory. -/
def SeqQ (n : Nat) (P : Program) (g : Nat) (lb : Array Value) (X : Nat → Prop) (Kp : World → World → Prop) (St : Nat → World → Prop) (Gv : Nat → Value → World → Prop) (Fin : Nat → Prop) (w : World) : Prop :=
  ∀ (l : Nat) (J : Nat → (Nat → Prop) → World → Prop) (Jx : Nat → World → Prop) (W : World), Below w.heap.size w W → (∀ T, OwnFrom W.heap.size (fun k => J k T)) → OwnFrom W.heap.size Jx → (∀ k T A, J k T A → ∀ b, T b → b < A.heap.size) →
    (∀ k T A B, J k T A → Touch X A B → J k T B) →
    (∀ k T A v, J k T A → St (k + 1) A → Gv k v A → YieldAt Fence.wide (n - 1) P l #[v] A fun e C => (e = .returned (.bool true) ∧ (∃ T', J (k + 1) T' C ∧ KT W.heap.size T A T' C) ∧ Kp A C) ∨ (e = .returned (.bool false) ∧ Jx (k + 1) C ∧ KeepsFrom W.heap.size A C ∧ Kp A C)) →
    (∃ T, J 0 T W) → CallsIn Fence.wide n P g (#[.func (.yield l) #[] #[]] ++ lb) W fun e B => (∃ v, e = .returned v) ∧ ((∃ k T, Fin k ∧ J k T B ∧ St k B) ∨ ∃ k, Jx k B ∧ St k B)

/-- How the body of a round may be left. -/
def postQ (B : Nat) (Kp : World → World → Prop) (I : Nat → (Nat → Prop) → World → Prop) (Ix : Code → Nat → World → Prop) (k : Nat) (T : Nat → Prop) (W : World) : Exit → Act → World → Prop
  | .normal, _, W' => (∃ T', I (k + 1) T' W' ∧ KT B T W T' W') ∧ Kp W W'
  | .ret, _, W' => KeepsFrom B W W' ∧ Kp W W' ∧ Ix .ret (k + 1) W'
  | .exit id, _, W' => KeepsFrom B W W' ∧ Kp W W' ∧ Ix (.exit id) (k + 1) W'
  | .goto t, _, W' => KeepsFrom B W W' ∧ Kp W W' ∧ Ix (.goto t) (k + 1) W'
  | .panic _, _, _ => False
  | .outgrown, _, _ => False

theorem range_lawQ {g : Operand} {p : Tmp} {assign body : Code} {Q : Exit → Act → World → Prop} {a : Act} {w : World} (h1 : 1 ≤ n) {gf : Nat} {lb : Array Value} (hg : a.eval g = .func (.func gf) #[] lb)
    (eg : ∀ args w, (callFunc gf args).run P w = .ok (.enter gf args) w) {X : Nat → Prop} {Kp : World → World → Prop} {St : Nat → World → Prop} {Gv : Nat → Value → World → Prop} {Fin : Nat → Prop} (hseq : SeqQ (n - 1) P gf lb X Kp St Gv Fin w)
    (hX : ∀ b, X b → b < w.heap.size) (hKt : ∀ {A B C : World}, Kp A B → Kp B C → Kp A C) (hKb : ∀ (W : World) (l : Nat) (o o' : Obj), w.heap.size ≤ l → W.heap[l]? = some o → o.isCells = false → o.isWalk = false → Kp W (W.putObj l o'))
    (hSt : OwnFrom w.heap.size St) (hG : ∀ v, OwnFrom w.heap.size fun k => Gv k v)
    (I : Nat → (Nat → Prop) → World → Prop) (Ix : Code → Nat → World → Prop) (hI : ∀ T, OwnFrom w.heap.size (fun k => I k T)) (hIT : ∀ k T W, I k T W → ∀ b, T b → b < W.heap.size) (hIX : ∀ k T A B, I k T A → Touch X A B → I k T B) (hIx : ∀ c, OwnFrom w.heap.size (Ix c))
    (h0 : ∃ T, I 0 T w) (Ax : Value → Act → World → Prop) (hAx : ∀ v a', OwnFrom w.heap.size (fun (_ : Unit) W => Ax v a' W))
    (hassign : ∀ (l k : Nat) (T : Nat → Prop) (v : Value) (W : World) (K : Act → World → Prop), I k T W → Gv k v W → (∀ a' W', Below W.heap.size W W' → Ax v a' W' → K a' W') →
      assign.wpIn (Fence.wide.inRound l) (n - 1 - 1) P (Exit.then K (fun _ _ _ => False)) { tmps := ((#[p] : Array Tmp).zip #[v]).foldl (fun t (p, v) => t.setIfInBounds p v) a.tmps, defers := [] } W)
    (hKn : ∀ A B, Below A.heap.size A B → w.heap.size ≤ A.heap.size → Kp A B) (hGb : ∀ k v A B, Gv k v A → Below A.heap.size A B → Gv k v B) (hSb : ∀ k A B, St k A → Below A.heap.size A B → St k B) (hIz : ∀ k T W, I k T W → w.heap.size ≤ W.heap.size)
    (hbody : ∀ (l k : Nat) (T : Nat → Prop) (v : Value) (a' : Act) (W : World), w.heap.size ≤ l → (∃ r, W.heap[l]? = some (.loop r)) → I k T W → St (k + 1) W → Gv k v W → Ax v a' W → body.wpIn (Fence.wide.inRound l) (n - 1 - 1) P (postQ w.heap.size Kp I Ix k T W) a' W)
    (hdone : ∀ (D k : Nat) (T : Nat → Prop) (W : World), w.heap.size ≤ D → Fin k → I k T W → St k W → W.heap[D]? = some (.deferred (some [])) → Q .normal { a with defers := { target := .collected D, args := #[] } :: a.defers } W)
    (hstop : ∀ (D : Nat) (c : Code) (k : Nat) (W : World), w.heap.size ≤ D → Ix c k W → St k W → W.heap[D]? = some (.deferred (some [])) → c.wpIn Fence.wide n P Q { a with defers := { target := .collected D, args := #[] } :: a.defers } W) :
    (Code.rangeFunc g #[p] assign body).wpIn Fence.wide n P Q a w := by
  refine wpIn_rangeFunc fun fn _ => ?_
  generalize hD : w.heap.size = D at *
  let r : Loop := { state := .ready, pending := none, fn, tmps := a.tmps, params := #[p], assign, body, defers := D }
  let w1 : World := (w.alloc (.deferred (some []))).alloc (.loop r)
  have bk1 : Book D r w1 := by
    refine ⟨?_, ?_⟩
    · have := World.alloc_heap_new (w.alloc (.deferred (some []))) (.loop r)
      rwa [World.size_alloc, hD] at this
    · have := World.alloc_heap_new w (.deferred (some []))
      rw [hD] at this
      exact (Below.heap_alloc _ _ _ (by simp; omega)).trans this
  have hs1 : w1.heap.size = D + 2 := by simp [w1, hD]
  obtain ⟨T0, h0⟩ := h0
  have i1 : I 0 T0 w1 := (hI T0).alloc _ ((hI T0).alloc _ h0)
  have b1 : Below w.heap.size w w1 := ((Below.refl _ w).alloc (Nat.le_refl _) _).alloc (by simp) _
  refine ⟨D + 1, [{ target := .collected D, args := #[] }], w1, { target := .fn (.func gf) lb, args := #[.func (.yield (D + 1)) #[] #[]] }, w1, gf, #[.func (.yield (D + 1)) #[] #[]] ++ lb, w1, ?_, ?_, fun _ _ => trivial, ?_, fun _ => h1, ?_⟩
  · rw [← hD]
    have := run_enterLoop_outer (P := P) (w := w) fn a.tmps #[p] assign body
    simp only [w1, r, ← hD]
    exact this
  · simp only [resolve, hg]
    simp [go_sem]
  · simp [invoke, go_sem, eg]
  · refine (hseq (D + 1) (fun k T W => I k T W ∧ Book D r W) (fun k W => ∃ c, Ix c k W ∧ Book D { r with state := .done, pending := some c } W) w1 b1
      (fun T s X Y row h hg hr => ⟨hI T s X Y row h.1 hg (fun q e => ⟨by have := (hr q e).1; omega, (hr q e).2⟩), book_own (β := Unit) () X Y row h.2 hg (fun q e => ⟨by have := (hr q e).1; omega, (hr q e).2⟩)⟩)
      (fun s X Y row h hg hr => let ⟨c, h1, h2⟩ := h; ⟨c, hIx c s X Y row h1 hg (fun q e => ⟨by have := (hr q e).1; omega, (hr q e).2⟩), book_own (β := Unit) () X Y row h2 hg (fun q e => ⟨by have := (hr q e).1; omega, (hr q e).2⟩)⟩)
      (fun k T A h => hIT k T A h.1)
      (fun k T A B h ht => ⟨hIX k T A B h.1 ht, (ht.block _ (ltAt h.2.1) fun e => by have := hX _ e; omega).trans h.2.1, (ht.block _ (ltAt h.2.2) fun e => by have := hX _ e; omega).trans h.2.2⟩) ?_ ⟨T0, i1, bk1⟩).mono ?_
    · rintro k T W v ⟨hi, hb⟩ hst hv
      refine ⟨fn, _, assign, body, run_yield hb.1 (by simp [r]), roundIn_of_wpIn trivial (hassign _ k T v W _ hi hv fun a' W' hbe hax => ?_)⟩
      have hWz := hIz k T W hi
      have hbW : Book D r W' := ⟨(hbe.block _ (ltAt hb.1)).trans hb.1, (hbe.block _ (ltAt hb.2)).trans hb.2⟩
      have hi' : I k T W' := hIX k T W W' hi (touch_new hbe)
      refine ⟨_, run_beginRound hbW.1 rfl, ?_⟩
      have hb2 := hbW.put { r with state := .busy }
      have k2 : KT w1.heap.size T W T (W'.putObj (D + 1) (.loop { r with state := .busy })) :=
        KT.trans (Y := W') ⟨⟨hbe.size, fun c o _ h _ => (hbe.block c (ltAt h)).trans h⟩, fun c _ hc _ => hbe.block c hc, fun _ _ h => h⟩ (KT.put (by omega))
      have g2 : Kp W (W'.putObj (D + 1) (.loop { r with state := .busy })) := hKt (hKn W W' hbe hWz) (hKb _ _ _ _ (by omega) hbW.1 rfl rfl)
      refine wpIn_mono (hbody _ k T v a' _ (by omega) ⟨_, hb2.1⟩ ((hI T).putObj _ hi' (by omega) hbW.1 rfl) (hSt.putObj _ (hSb _ _ _ hst hbe) (by omega) hbW.1 rfl) ((hG v).putObj (s := k) _ (hGb _ _ _ _ hv hbe) (by omega) hbW.1 rfl) ((hAx v a').putObj (s := ()) _ hax (by omega) hbW.1 rfl)) fun e a3 W3 hp => ?_
      have left : ∀ c, KeepsFrom D (W'.putObj (D + 1) (.loop { r with state := .busy })) W3 → Kp (W'.putObj (D + 1) (.loop { r with state := .busy })) W3 → Ix c (k + 1) W3 → ∃ v W4, (Instr.endRound (D + 1) (some c)).run P W3 = .ok v W4 ∧ ((Ending.returned v = .returned (.bool true) ∧ (∃ T', (I (k + 1) T' W4 ∧ Book D r W4) ∧ KT w1.heap.size T W T' W4) ∧ Kp W W4) ∨ (Ending.returned v = .returned (.bool false) ∧ (∃ c, Ix c (k + 1) W4 ∧ Book D { r with state := .done, pending := some c } W4) ∧ KeepsFrom w1.heap.size W W4 ∧ Kp W W4)) := fun c hk' hkp hi3 => by
        obtain ⟨hr, hl, hb4⟩ := round_end (P := P) hb2 (some c) hk'
        exact ⟨_, _, hr, .inr ⟨rfl, ⟨c, (hIx c).putObj _ hi3 (by omega) hl rfl, hb4⟩, (k2.keep.trans ⟨hk'.size, fun k o h => hk'.same k o (by omega)⟩).trans (KT.put (T := T) (by omega)).keep, hKt (hKt g2 hkp) (hKb _ _ _ _ (by omega) hl rfl rfl)⟩⟩
      cases e with
      | normal =>
        obtain ⟨⟨T', hi3, hkt⟩, hkg⟩ := hp
        obtain ⟨hr, hl, hb4⟩ := round_end (P := P) hb2 none hkt.keep
        exact ⟨_, _, hr, .inl ⟨rfl, ⟨T', ⟨(hI T').putObj _ hi3 (by omega) hl rfl, hb4⟩, (k2.trans (hkt.mono (by omega))).trans (KT.put (by omega))⟩, hKt (hKt g2 hkg) (hKb _ _ _ _ (by omega) hl rfl rfl)⟩⟩
      | ret => exact left _ hp.1 hp.2.1 hp.2.2
      | exit id => exact left _ hp.1 hp.2.1 hp.2.2
      | goto t => exact left _ hp.1 hp.2.1 hp.2.2
      | panic _ => exact hp.elim
      | outgrown => exact hp.elim
    · rintro e W2 ⟨⟨v, rfl⟩, (⟨k, T, hfin, ⟨hi, hb⟩, hst⟩ | ⟨k, ⟨c, hi, hb⟩, hst⟩)⟩
      · exact ⟨none, _, run_endLoop hb.1 (by simp [r]), hdone _ k T _ (Nat.le_refl _) hfin ((hI T).putObj _ hi (by omega) hb.1 rfl) (hSt.putObj _ hst (by omega) hb.1 rfl) (hb.put _).2⟩
      · exact ⟨some c, _, run_endLoop hb.1 (by simp), hstop _ c k _ (Nat.le_refl _) ((hIx c).putObj _ hi (by omega) hb.1 rfl) (hSt.putObj _ hst (by omega) hb.1 rfl) (hb.put _).2⟩
end

end Go.Proofs.Ytpkjkhpnhcbciaa
