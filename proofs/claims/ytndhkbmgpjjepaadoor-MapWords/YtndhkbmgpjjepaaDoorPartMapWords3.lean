/- Own work: the parts RangeL, D1, M1, M2, M3, M4, M5 of the proof, laid together. -/
import Derived.Test.YtndhkbmgpjjepaaDoorPartMapWords2
import Derived.StillTailTactics
import Derived.Laws.AppendOwnNone
import Derived.Lib.AppendZeros
import Derived.Deep.LoopGhost
/- A range over a function that goes over a list which is known: the body is walked at the k-th element of it. Own work; no statement. -/
set_option linter.unusedSimpArgs false
set_option linter.unusedVariables false
namespace Go.Proofs.YtndhkbmgpjjepaaDoor
open Go.RowKit Go.Shelf

section
variable {α : Type} {P : Program} {n : Nat}

/-- The iterator's contract: it hands over xs, one by one, as long as it is asked. -/
def SeqL (n : Nat) (P : Program) (g : Nat) (lb : Array Value) (encs : α → Array Value) (Kp : World → World → Prop) (xs : List α) (w : World) : Prop :=
  ∀ (l : Nat) (J Jx : Nat → World → Prop) (W : World), Below w.heap.size w W →
    (∀ k (h : k < xs.length) A, J k A → YieldAt Fence.wide (n - 1) P l (encs xs[k]) A fun e C => (e = .returned (.bool true) ∧ J (k + 1) C ∧ Kp A C) ∨ (e = .returned (.bool false) ∧ Jx k C)) →
    J 0 W → CallsIn Fence.wide n P g (#[.func (.yield l) #[] #[]] ++ lb) W fun e B => (∃ v, e = .returned v) ∧ (J xs.length B ∨ ∃ k, k < xs.length ∧ Jx k B)

/-- How the body of a round may be left. -/
def postL (B : Nat) (Kp : World → World → Prop) (I : Nat → World → Prop) (Ix : Code → Nat → World → Prop) (k : Nat) (W : World) : Exit → Act → World → Prop
  | .normal, _, W' => KeepsFrom B W W' ∧ Kp W W' ∧ I (k + 1) W'
  | .ret, _, W' => KeepsFrom B W W' ∧ Ix .ret k W'
  | .exit id, _, W' => KeepsFrom B W W' ∧ Ix (.exit id) k W'
  | .goto t, _, W' => KeepsFrom B W W' ∧ Ix (.goto t) k W'
  | .panic _, _, _ => False
  | .outgrown, _, _ => False

theorem range_lawL {g : Operand} {ps : Array Tmp} {assign body : Code} {Q : Exit → Act → World → Prop} {a : Act} {w : World} (h1 : 1 ≤ n) {gf : Nat} {lb : Array Value} (hg : a.eval g = .func (.func gf) #[] lb)
    (eg : ∀ args w, (callFunc gf args).run P w = .ok (.enter gf args) w) {encs : α → Array Value} {Kp : World → World → Prop} {xs : List α} (hseq : SeqL (n - 1) P gf lb encs Kp xs w)
    (hKt : ∀ {A B C : World}, Kp A B → Kp B C → Kp A C) (hKb : ∀ (W : World) (l : Nat) (o o' : Obj), w.heap.size ≤ l → W.heap[l]? = some o → o.isCells = false → o.isWalk = false → Kp W (W.putObj l o'))
    (hps : ∀ x, (encs x).size = ps.size)
    (I : Nat → World → Prop) (Ix : Code → Nat → World → Prop) (hI : OwnFrom w.heap.size I) (hIx : ∀ c, OwnFrom w.heap.size (Ix c))
    (h0 : I 0 w) (a₁ : α → Act)
    (hassign : ∀ (l : Nat) (x : α) (W : World) (K : Act → World → Prop), K (a₁ x) W →
      assign.wpIn (Fence.wide.inRound l) (n - 1 - 1) P (Exit.then K (fun _ _ _ => False)) { tmps := (ps.zip (encs x)).foldl (fun t (p, v) => t.setIfInBounds p v) a.tmps, defers := [] } W)
    (hbody : ∀ (l k : Nat) (h : k < xs.length) (W : World), I k W → body.wpIn (Fence.wide.inRound l) (n - 1 - 1) P (postL w.heap.size Kp I Ix k W) (a₁ xs[k]) W)
    (hdone : ∀ (D : Nat) (W : World), w.heap.size ≤ D → I xs.length W → W.heap[D]? = some (.deferred (some [])) → Q .normal { a with defers := { target := .collected D, args := #[] } :: a.defers } W)
    (hstop : ∀ (D : Nat) (c : Code) (k : Nat) (W : World), w.heap.size ≤ D → k < xs.length → Ix c k W → W.heap[D]? = some (.deferred (some [])) → c.wpIn Fence.wide n P Q { a with defers := { target := .collected D, args := #[] } :: a.defers } W) :
    (Code.rangeFunc g ps assign body).wpIn Fence.wide n P Q a w := by
  refine wpIn_rangeFunc fun fn _ => ?_
  generalize hD : w.heap.size = D at *
  let r : Loop := { state := .ready, pending := none, fn, tmps := a.tmps, params := ps, assign, body, defers := D }
  let w1 : World := (w.alloc (.deferred (some []))).alloc (.loop r)
  have bk1 : Book D r w1 := by
    refine ⟨?_, ?_⟩
    · have := World.alloc_heap_new (w.alloc (.deferred (some []))) (.loop r)
      rwa [World.size_alloc, hD] at this
    · have := World.alloc_heap_new w (.deferred (some []))
      rw [hD] at this
      exact (Below.heap_alloc _ _ _ (by simp; omega)).trans this
  have i1 : I 0 w1 := hI.alloc _ (hI.alloc _ h0)
  have b1 : Below w.heap.size w w1 := ((Below.refl _ w).alloc (Nat.le_refl _) _).alloc (by simp) _
  refine ⟨D + 1, [{ target := .collected D, args := #[] }], w1, { target := .fn (.func gf) lb, args := #[.func (.yield (D + 1)) #[] #[]] }, w1, gf, #[.func (.yield (D + 1)) #[] #[]] ++ lb, w1, ?_, ?_, fun _ _ => trivial, ?_, fun _ => h1, ?_⟩
  · rw [← hD]
    have := run_enterLoop_outer (P := P) (w := w) fn a.tmps ps assign body
    simp only [w1, r, ← hD]
    exact this
  · simp only [resolve, hg]
    simp [go_sem]
  · simp [invoke, go_sem, eg]
  · refine (hseq (D + 1) (fun k W => I k W ∧ Book D r W) (fun k W => ∃ c, Ix c k W ∧ Book D { r with state := .done, pending := some c } W) w1 b1 ?_ ⟨i1, bk1⟩).mono ?_
    · rintro k hk W ⟨hi, hb⟩
      refine ⟨fn, _, assign, body, run_yield hb.1 (hps xs[k]), roundIn_of_wpIn trivial (hassign _ xs[k] W _ ⟨_, run_beginRound hb.1 rfl, ?_⟩)⟩
      have hb2 := hb.put { r with state := .busy }
      have k2 : Kp W (W.putObj (D + 1) (.loop { r with state := .busy })) := hKb _ _ _ _ (by omega) hb.1 rfl rfl
      refine wpIn_mono (hbody _ k hk _ (hI.putObj _ hi (by omega) hb.1 rfl)) fun e a3 W3 hp => ?_
      have left : ∀ c, KeepsFrom D (W.putObj (D + 1) (.loop { r with state := .busy })) W3 → Ix c k W3 → ∃ v W4, (Instr.endRound (D + 1) (some c)).run P W3 = .ok v W4 ∧ ((Ending.returned v = .returned (.bool true) ∧ (I (k + 1) W4 ∧ Book D r W4) ∧ Kp W W4) ∨ (Ending.returned v = .returned (.bool false) ∧ ∃ c, Ix c k W4 ∧ Book D { r with state := .done, pending := some c } W4)) := fun c hk' hi3 => by
        obtain ⟨hr, hl, hb4⟩ := round_end (P := P) hb2 (some c) hk'
        exact ⟨_, _, hr, .inr ⟨rfl, c, (hIx c).putObj _ hi3 (by omega) hl rfl, hb4⟩⟩
      cases e with
      | normal =>
        obtain ⟨hk', hkp, hi3⟩ := hp
        obtain ⟨hr, hl, hb4⟩ := round_end (P := P) hb2 none hk'
        exact ⟨_, _, hr, .inl ⟨rfl, ⟨hI.putObj _ hi3 (by omega) hl rfl, hb4⟩, hKt (hKt k2 hkp) (hKb _ _ _ _ (by omega) hl rfl rfl)⟩⟩
      | ret => exact left _ hp.1 hp.2
      | exit id => exact left _ hp.1 hp.2
      | goto t => exact left _ hp.1 hp.2
      | panic _ => exact hp.elim
      | outgrown => exact hp.elim
    · rintro e W2 ⟨⟨v, rfl⟩, (⟨hi, hb⟩ | ⟨k, hk, c, hi, hb⟩)⟩
      · exact ⟨none, _, run_endLoop hb.1 (by simp [r]), hdone _ _ (Nat.le_refl _) (hI.putObj _ hi (by omega) hb.1 rfl) (hb.put _).2⟩
      · exact ⟨some c, _, run_endLoop hb.1 (by simp), hstop _ c k _ (Nat.le_refl _) hk ((hIx c).putObj _ hi (by omega) hb.1 rfl) (hb.put _).2⟩
end

end Go.Proofs.YtndhkbmgpjjepaaDoor

/- Memory that changes at some blocks alone; disks in memory; disk's small functions. Own work; no statement. -/
set_option linter.unusedSimpArgs false
set_option linter.unusedVariables false
namespace Go.Proofs.YtndhkbmgpjjepaaDoor
open Go.RowKit Go.Shelf

/-- From w to w' nothing has changed of what there was, but for the blocks of S. -/
structure Touch (S : Nat → Prop) (w w' : World) : Prop where
  os : w'.os = w.os
  tape : w'.tape = w.tape
  output : w'.output = w.output
  size : w.heap.size ≤ w'.heap.size
  block : ∀ k, k < w.heap.size → ¬ S k → w'.heap[k]? = w.heap[k]?

theorem Touch.refl (S : Nat → Prop) (w : World) : Touch S w w := ⟨rfl, rfl, rfl, Nat.le_refl _, fun _ _ _ => rfl⟩
theorem Touch.next {S S1 : Nat → Prop} {a b c : World} (h : Touch S a b) (k : Touch S1 b c) (hs : ∀ i, i < a.heap.size → S1 i → S i) : Touch S a c :=
  ⟨k.os.trans h.os, k.tape.trans h.tape, k.output.trans h.output, Nat.le_trans h.size k.size, fun i hi hS => (k.block i (Nat.lt_of_lt_of_le hi h.size) (fun e => hS (hs i hi e))).trans (h.block i hi hS)⟩
theorem Touch.trans {S : Nat → Prop} {a b c : World} (h : Touch S a b) (k : Touch S b c) : Touch S a c := h.next k fun _ _ e => e
theorem Touch.mono {S S' : Nat → Prop} {w w' : World} (h : Touch S w w') (hs : ∀ k, k < w.heap.size → S k → S' k) : Touch S' w w' :=
  ⟨h.os, h.tape, h.output, h.size, fun k hk hS => h.block k hk fun e => hS (hs k hk e)⟩
theorem touch_of_below {S : Nat → Prop} {B : Nat} {w w' : World} (h : Below B w w') (hS : ∀ k, k < w.heap.size → B ≤ k → S k) : Touch S w w' :=
  ⟨h.os, h.tape, h.output, h.size, fun k hk hn => h.block k (Nat.lt_of_not_le fun hb => hn (hS k hk hb))⟩
theorem touch_new {S : Nat → Prop} {w w' : World} (h : Below w.heap.size w w') : Touch S w w' := touch_of_below h fun k h1 h2 => absurd h1 (by omega)
theorem Touch.below {S : Nat → Prop} {w w' : World} {B : Nat} (h : Touch S w w') (hb : B ≤ w.heap.size) (hB : ∀ k, k < w.heap.size → S k → B ≤ k) : Below B w w' :=
  ⟨h.os, h.tape, h.output, h.size, fun k hk => h.block k (by omega) fun e => by have := hB k (by omega) e; omega⟩
theorem touch_set {S : Nat → Prop} (w : World) (a : Addr) (v : Value) (h : S a.block) : Touch S w (w.setCell a v) :=
  ⟨rfl, rfl, rfl, by simp [World.setCell], fun k _ hn => Below.heap_setCell _ _ _ _ (fun e => hn (e ▸ h))⟩
theorem Touch.set {S : Nat → Prop} {w w' : World} (t : Touch S w w') (a : Addr) (v : Value) (h : S a.block) : Touch S w (w'.setCell a v) := t.trans (touch_set w' a v h)
theorem Touch.alloc {S : Nat → Prop} {w w' : World} (t : Touch S w w') (o : Obj) : Touch S w (w'.alloc o) := t.trans (touch_new ((Below.refl _ w').alloc (Nat.le_refl _) o))
theorem Touch.drew {S : Nat → Prop} {w w' : World} (t : Touch S w w') : Touch S w w'.drew := ⟨t.os, t.tape, t.output, t.size, t.block⟩
theorem Touch.new {S : Nat → Prop} {w w' w2 : World} (t : Touch S w w') (h : Below w'.heap.size w' w2) : Touch S w w2 := t.trans (touch_new h)
/-- What is new since w may be changed at will. -/
theorem Touch.upper {S S1 : Nat → Prop} {a b c : World} (h : Touch S a b) (k : Touch S1 b c) (hs : ∀ i, S1 i → a.heap.size ≤ i) : Touch S a c := h.next k fun i hi e => absurd (hs i e) (by omega)

theorem ownFrom_touch {β : Type} {S : Nat → Prop} {w : World} {B : Nat} (hB : w.heap.size ≤ B) : OwnFrom B (fun (_ : β) W => Touch S w W) := fun _ W W' row h hg hr =>
  h.next (S1 := fun k => row = some k) ⟨hg.os, hg.tape, hg.output, hg.size, fun k hk hn => hg.block k hk fun e => hn e.symm⟩ fun i hi e => absurd ((hr i e).1) (by omega)

theorem Touch.of_touch {S : Nat → Prop} {a b c : World} (k : Touch S b c) (h : Below a.heap.size a b) : Touch S a c := (touch_new h).trans k
theorem drewsB (w : World) (n : Nat) : Below w.heap.size w (w.drewN n) := ⟨rfl, rfl, rfl, Nat.le_refl _, fun _ _ => rfl⟩
theorem Touch.drewN {S : Nat → Prop} {w w' : World} (t : Touch S w w') (n : Nat) : Touch S w (w'.drewN n) := t.new (drewsB w' n)

theorem cellsAt {W : World} {b : Nat} {c : Array Value} {t : TypeId} {f : Nat × Nat} (h : W.heap[b]? = some (.cells c t f)) (j : Nat) : W.cell? ⟨b, j, none⟩ = c[j]? := by
  simp [World.cell?, h]
theorem frozenAt {W : World} {b : Nat} {c : Array Value} {t : TypeId} (h : W.heap[b]? = some (.cells c t (0, 0))) (j : Nat) : W.frozen? ⟨b, j, none⟩ = false := by
  simp [World.frozen?, h]
theorem setAt {W : World} {b j : Nat} {c : Array Value} {t : TypeId} {f : Nat × Nat} (h : W.heap[b]? = some (.cells c t f)) (v : Value) : (W.setCell ⟨b, j, none⟩ v).heap[b]? = some (.cells (c.setIfInBounds j v) t f) := by
  simp [World.setCell, Array.getElem?_modify, h]
theorem ltAt {W : World} {b : Nat} {o : Obj} (h : W.heap[b]? = some o) : b < W.heap.size := (Array.getElem?_eq_some_iff.1 h).1

/-- A row is no block of another type. -/
theorem row_not {W : World} {B e : Nat} {v : Value} {n s b : Nat} {xs : List Value} {c : Array Value} {t : TypeId} {f : Nat × Nat} (h : W.ownsRow B e s v n xs) (hb : W.heap[b]? = some (.cells c t f)) (ht : t ≠ e) : some b ≠ v.ownBlock := fun he => by
  rcases h.2 with ⟨rfl, _⟩ | ⟨g', cap', cur, rfl, _, hg', _⟩
  · cases he
  · obtain rfl : b = g' := by simpa [Value.ownBlock] using he
    rw [hb] at hg'
    simp only [Option.some.injEq, Obj.cells.injEq] at hg'
    exact ht hg'.2.1

theorem frozen_alloc {w : World} {a : Addr} {v : Value} {o : Obj} (h : w.cell? a = some v) : (w.alloc o).frozen? a = w.frozen? a :=
  ((Below.refl _ w).alloc (Nat.le_refl _) o).frozen (p := a) (World.block_lt_of_cell? w _ h)

/-- A call of a Go function by its contract, as a step of a region that draws. -/
theorem stepCall {P : Program} {ops : Array Oper} {o : Oper} {a : Act} {w : World} {K : Act → World → Prop} {Q : Exit → Act → World → Prop} {E : Prop} (hg : o.guard = none) (f : FuncId) (args : Array Value) {R : Ending → World → Prop} (hrun : (execOp a.eval o).run P w = .ok (.enter f args) w) (hc : Calls P f args w R)
    (hR : ∀ e w', R e w' → ∃ v, e = .returned v ∧ K (a.put o.dst v) w') : if Region.wanted o (yielded ops a.tmps) = true then Oper.wp P o a w K Q else E := by
  rw [if_pos (by simp [Region.wanted, hg])]
  unfold Oper.wp
  rw [hrun]
  simp only [Oper.upon]
  refine hc.mono fun e w' h => ?_
  obtain ⟨v, rfl, hk⟩ := hR e w' h
  exact hk

/-- A region whose head only reads, and whose tail comes in one order. -/
theorem stillTail {P : Program} {id : Nat} {Q : Exit → Act → World → Prop} {a : Act} {w : World} {l : List Oper} (n : Nat) (hm : P.follows .mixedOrders = true) (hB : Region.lexTailB .any l.toArray n = true)
    (h : wpStill P l.toArray w.drew (fun a' => wpList P l.toArray Q (l.drop n) a' w.drew) (l.take n) a) : (Code.region id l.toArray true).wp P Q a w := wp_region_still_tail n hm hB h

/-- What a disk has. -/
structure DiskD where
  room : Int
  lines : List ByteArray
  lasts : Nat

/-- The bytes of lines, with their ends. -/
def bytesOf (l : List ByteArray) : Nat := (l.map (fun s => s.size + 1)).sum

theorem bytesOf_append (a b : List ByteArray) : bytesOf (a ++ b) = bytesOf a + bytesOf b := by simp [bytesOf]
theorem bytesOf_length (l : List ByteArray) : l.length ≤ bytesOf l := by
  induction l with
  | nil => simp [bytesOf]
  | cons x r ih => simp [bytesOf] at *; omega
theorem bytesOf_take (l : List ByteArray) (k : Nat) : bytesOf (l.take k) + bytesOf (l.drop k) = bytesOf l := by
  rw [← bytesOf_append, List.take_append_drop]
theorem bytesOf_mem {l : List ByteArray} {s : ByteArray} (h : s ∈ l) : s.size + 1 ≤ bytesOf l := by
  induction l with
  | nil => cases h
  | cons x r ih =>
    simp [bytesOf] at *
    rcases h with rfl | h
    · omega
    · have := ih h; omega

structure DiskD.ok (D : DiskD) : Prop where
  low : 1 ≤ D.room
  high : D.room ≤ 1048576
  fits : (bytesOf D.lines : Int) ≤ D.room
  lasts : D.lasts ≤ D.lines.length

/-- The blocks of a disk. -/
def onDisk (p : Nat) (g : Option Nat) (k : Nat) : Prop := k = p ∨ g = some k

/-- A row of texts, cell by cell. -/
theorem strs_cell {w : World} {B : Nat} {e : TypeId} {a : Option Addr} {cap : Nat} {l : List ByteArray} (h : w.ownsRow B e 1 (.slice a l.length cap) l.length (l.map Value.string)) (t : Nat) (ht : t < l.length) :
    ∃ b, a = some ⟨b, 0, none⟩ ∧ w.cell? ⟨b, t, none⟩ = some (.string l[t]) := by
  rcases h.2 with ⟨e', h0⟩ | ⟨g, cap', cur, e', _⟩
  · omega
  · simp only [Value.slice.injEq] at e'
    obtain ⟨rfl, -, rfl⟩ := e'
    refine ⟨g, rfl, ?_⟩
    rw [h.cellAt t (by omega)]
    simp [ht]

end Go.Proofs.YtndhkbmgpjjepaaDoor

/- Maps in memory: what they read as; stripe's Check, Find. Own work; no statement. -/
set_option linter.unusedSimpArgs false
set_option linter.unusedVariables false
namespace Go.Proofs.YtndhkbmgpjjepaaDoor
open Go.RowKit

/-- A map: its epochs' From and N. -/
abbrev MapD := List (Int × Int)
/-- At the block b from o on there lies a span. -/
def SpanAt (w : World) (b o : Nat) (x : Int × Int) : Prop := w.cell? ⟨b, o, none⟩ = some (.int .i64 x.1) ∧ w.cell? ⟨b, o + 1, none⟩ = some (.int .i64 x.2)
theorem SpanAt.below {w w' : World} {b o : Nat} {x : Int × Int} (h : SpanAt w b o x) (hb : Below w.heap.size w w') : SpanAt w' b o x := by
  have hlt : b < w.heap.size := World.block_lt_of_cell? w _ h.1
  exact ⟨(hb.cell (p := ⟨b, o, none⟩) hlt).trans h.1, (hb.cell (p := ⟨b, o + 1, none⟩) hlt).trans h.2⟩
/-- In the world w the slice v reads as the map m. -/
def IsMap (w : World) (v : Value) (m : MapD) : Prop := ∃ a cap, v = .slice a m.length cap ∧ (a = none → cap = 0) ∧ ∀ t (h : t < m.length), ∃ b o, a = some ⟨b, o, none⟩ ∧ SpanAt w b (o + t * 2) m[t]
theorem IsMap.below {w w' : World} {v : Value} {m : MapD} (h : IsMap w v m) (hb : Below w.heap.size w w') : IsMap w' v m := by
  obtain ⟨a, cap, rfl, h0, h⟩ := h
  exact ⟨a, cap, rfl, h0, fun t ht => let ⟨b, o, e, hr⟩ := h t ht; ⟨b, o, e, hr.below hb⟩⟩
theorem IsMap.nil (w : World) : IsMap w (.slice none 0 0) [] := ⟨none, 0, rfl, fun _ => rfl, fun t h => absurd h (Nat.not_lt_zero t)⟩

/-- Check, from the k-th span on, the one ahead's From being a. -/
def okFrom (a : Int) : MapD → Bool
  | [] => true
  | x :: r => decide (a ≤ x.1) && decide (1 ≤ x.2) && decide (x.2 ≤ 8) && okFrom x.1 r
/-- May it be a map? -/
def okMap (m : MapD) : Bool := match m with
  | [] => false
  | x :: _ => decide (x.1 = 0) && okFrom 0 m
/-- Check's number. -/
def checkM (m : MapD) : Int := if okMap m then 0 else 1

theorem okFrom_cons (a : Int) (x : Int × Int) (r : MapD) : okFrom a (x :: r) = (decide (a ≤ x.1) && decide (1 ≤ x.2) && decide (x.2 ≤ 8) && okFrom x.1 r) := rfl
theorem okFrom_step {m : MapD} {k : Nat} (h : k < m.length) (a : Int) : okFrom a (m.drop k) = (decide (a ≤ m[k].1) && decide (1 ≤ m[k].2) && decide (m[k].2 ≤ 8) && okFrom m[k].1 (m.drop (k + 1))) := by
  rw [List.drop_eq_getElem_cons h, okFrom_cons]

/-- A map's numbers are such as an int holds. -/
def MapR (m : MapD) : Prop := ∀ x ∈ m, (-9223372036854775808 ≤ x.1 ∧ x.1 ≤ 9223372036854775807) ∧ (-9223372036854775808 ≤ x.2 ∧ x.2 ≤ 9223372036854775807)

set_option maxHeartbeats 1000000 in
theorem mapCheck_calls (v : Value) (m : MapD) (w : World) (hv : IsMap w v m) (hl : m.length ≤ 1099511627776) :
    Calls Tryd.prog 14 #[v] w fun e w' => e = .returned (.int .i64 (checkM m)) ∧ Below w.heap.size w w' := by
  obtain ⟨a, cap, rfl, -, hcell⟩ := hv
  obtain ⟨r, hr⟩ : ∃ r, checkM m = r := ⟨_, rfl⟩
  rw [hr]
  by_cases h0 : m.length = 0
  · obtain rfl : m = [] := List.eq_nil_of_length_eq_zero h0
    subst hr
    clear hcell
    go_enter Tryd.func14, Tryd.ntmps14
    go_wp2
    go_ret
    exact ⟨rfl, Below.refl _ _⟩
  · obtain ⟨b, o, rfl, c00, c01⟩ := hcell 0 (by omega)
    have Hc := hide hcell
    clear hcell
    simp only [Nat.zero_mul, Nat.add_zero] at c00 c01
    have hok : okMap m = (decide ((m[0]'(by omega)).1 = 0) && okFrom 0 m) := by
      cases m with
      | nil => simp at h0
      | cons x r => rfl
    generalize (m[0]'(by omega)).1 = f0 at *
    have hbw : b < w.heap.size := World.block_lt_of_cell? w _ c00
    clear c01
    by_cases hf : f0 = 0
    · subst hf
      simp only [decide_true, Bool.true_and] at hok
      have hn : ((m.length : Int) == 0) = false := by rw [beq_eq_false_iff_ne]; omega
      go_enter Tryd.func14, Tryd.ntmps14
      go_wp2
      go_loopw [3, 18] (fun ah i wr => ∃ (k : Nat) (x : Int), ah = .int .i64 x ∧ i = .int .i64 (k : Int) ∧ k ≤ m.length ∧ okFrom x (m.drop k) = okMap m ∧ Below w.heap.size w wr) (fun _ i _ => m.length - (intOf i).toNat)
      case atStart => exact ⟨0, 0, rfl, rfl, Nat.zero_le _, hok.symm, Below.refl _ _⟩
      case round =>
        obtain ⟨k, x, rfl, rfl, hk, hok', hB⟩ := hrel
        by_cases hlt : k < m.length
        · have hltI : (k : Int) < (m.length : Int) := by omega
          obtain ⟨b', o', e, c0, c1⟩ := Hc.out k hlt
          cases e
          rw [okFrom_step hlt] at hok'
          replace c0 : wr.cell? ⟨b, o + k * 2, none⟩ = _ := (hB.cell (p := ⟨b, o + k * 2, none⟩) hbw).trans c0
          replace c1 : wr.cell? ⟨b, o + k * 2 + 1, none⟩ = _ := (hB.cell (p := ⟨b, o + k * 2 + 1, none⟩) hbw).trans c1
          generalize m[k].1 = p at *
          generalize m[k].2 = q at *
          have hbs := hB.size
          have hB' : Below w.heap.size w (wr.alloc (.cells #[.int .i64 p, .int .i64 q] 48)) := hB.alloc hB.size _
          have bad : ¬ (x ≤ p ∧ 1 ≤ q ∧ q ≤ 8) → r = 1 := fun hn => by
            rw [← hr, checkM, ← hok', if_neg]
            intro hx
            simp only [Bool.and_eq_true, decide_eq_true_eq] at hx
            exact hn ⟨hx.1.1.1, hx.1.1.2, hx.1.2⟩
          have Bad := hide bad
          have Hr := hide hr
          clear bad hr
          by_cases h1 : p < x
          · obtain rfl := Bad.out (by omega)
            go_wp2
            go_ret
            exact ⟨rfl, hB'⟩
          · by_cases h2 : q < 1
            · obtain rfl := Bad.out (by omega)
              go_wp2
              go_ret
              exact ⟨rfl, hB'⟩
            · by_cases h3 : q > 8
              · obtain rfl := Bad.out (by omega)
                go_wp2
                go_ret
                exact ⟨rfl, hB'⟩
              · have hok2 : okFrom p (m.drop (k + 1)) = okMap m := by
                  rw [← hok']
                  simp [show x ≤ p by omega, show 1 ≤ q by omega, show q ≤ 8 by omega]
                go_wp2
                exact ⟨⟨k + 1, p, rfl, by go_num, by omega, hok2, hB'⟩, by simp [intOf]; omega⟩
        · have hltI : ¬ (k : Int) < (m.length : Int) := by omega
          have hr0 : r = 0 := by
            rw [← hr, checkM, ← hok', List.drop_of_length_le (by omega)]
            rfl
          subst hr0
          go_wp2
          go_ret
          exact ⟨rfl, hB⟩
    · have : r = 1 := by rw [← hr, checkM, hok]; simp [hf]
      subst this
      have hn : ((m.length : Int) == 0) = false := by rw [beq_eq_false_iff_ne]; omega
      have hf2 : (f0 == 0) = false := by rw [beq_eq_false_iff_ne]; exact hf
      go_enter Tryd.func14, Tryd.ntmps14
      go_wp2
      go_ret
      exact ⟨rfl, Below.refl _ _⟩

end Go.Proofs.YtndhkbmgpjjepaaDoor

/- stripe's Find. Own work; no statement. -/
set_option linter.unusedSimpArgs false
set_option linter.unusedVariables false
namespace Go.Proofs.YtndhkbmgpjjepaaDoor
open Go.RowKit

theorem okFrom_get : ∀ (m : MapD) (a : Int), okFrom a m = true → ∀ k (h : k < m.length), a ≤ m[k].1 ∧ 1 ≤ m[k].2 ∧ m[k].2 ≤ 8
  | [], _, _, k, h => absurd h (by simp)
  | x :: r, a, hok, k, h => by
    rw [okFrom_cons] at hok
    simp only [Bool.and_eq_true, decide_eq_true_eq] at hok
    cases k with
    | zero => exact ⟨hok.1.1.1, hok.1.1.2, hok.1.2⟩
    | succ k =>
      have h' : k < r.length := by simpa using h
      have := okFrom_get r x.1 hok.2 k h'
      have h1 := hok.1.1.1
      simp only [List.getElem_cons_succ]
      omega
theorem okFrom_sorted : ∀ (m : MapD) (a : Int), okFrom a m = true → ∀ i j (h : i < j) (hj : j < m.length), (m[i]'(by omega)).1 ≤ m[j].1
  | [], _, _, _, j, _, hj => absurd hj (by simp)
  | x :: r, a, hok, i, j, h, hj => by
    rw [okFrom_cons] at hok
    simp only [Bool.and_eq_true, decide_eq_true_eq] at hok
    cases j with
    | zero => omega
    | succ j =>
      have hj' : j < r.length := by simpa using hj
      cases i with
      | zero => exact (okFrom_get r x.1 hok.2 j hj').1
      | succ i => exact okFrom_sorted r x.1 hok.2 i j (by omega) hj'
theorem okMap_pos {m : MapD} (h : okMap m = true) : 0 < m.length := by
  cases m with
  | nil => simp [okMap] at h
  | cons x r => simp
theorem okMap_zero {m : MapD} (h : okMap m = true) : (m[0]'(okMap_pos h)).1 = 0 := by
  cases m with
  | nil => simp [okMap] at h
  | cons x r =>
    simp only [okMap, Bool.and_eq_true, decide_eq_true_eq] at h
    exact h.1
theorem okMap_from {m : MapD} (h : okMap m = true) : okFrom 0 m = true := by
  cases m with
  | nil => rfl
  | cons x r =>
    simp only [okMap, Bool.and_eq_true, decide_eq_true_eq] at h
    exact h.2
theorem okMap_get {m : MapD} (h : okMap m = true) (k : Nat) (hk : k < m.length) : 0 ≤ m[k].1 ∧ 1 ≤ m[k].2 ∧ m[k].2 ≤ 8 := okFrom_get m 0 (okMap_from h) k hk
theorem okMap_sorted {m : MapD} (h : okMap m = true) (i j : Nat) (hij : i < j) (hj : j < m.length) : (m[i]'(by omega)).1 ≤ m[j].1 := okFrom_sorted m 0 (okMap_from h) i j hij hj

/-- Of the first n epochs the last whose From is not above pos, from 1 on. -/
def epochM (m : MapD) (pos : Int) : Nat → Nat
  | 0 => 0
  | n + 1 => if (m.getD n (0, 0)).1 ≤ pos then n + 1 else epochM m pos n
theorem epochM_le (m : MapD) (pos : Int) : ∀ n, epochM m pos n ≤ n
  | 0 => Nat.le_refl _
  | n + 1 => by
    have := epochM_le m pos n
    unfold epochM
    split <;> omega
theorem epochM_pos {m : MapD} {pos : Int} (h : okMap m = true) (h0 : 0 ≤ pos) : ∀ n, 1 ≤ n → 1 ≤ epochM m pos n
  | 1, _ => by
    have := okMap_zero h
    have hp := okMap_pos h
    unfold epochM
    rw [List.getD_eq_getElem?_getD, List.getElem?_eq_getElem hp, Option.getD_some, this, if_pos h0]
    exact Nat.le_refl _
  | n + 2, _ => by
    have := epochM_pos h h0 (n + 1) (by omega)
    unfold epochM
    split <;> omega
theorem epochM_from {m : MapD} {pos : Int} : ∀ n, 1 ≤ epochM m pos n → (m.getD (epochM m pos n - 1) (0, 0)).1 ≤ pos
  | 0, h => absurd h (by simp [epochM])
  | n + 1, h => by
    unfold epochM at h ⊢
    split
    · rename_i hx; simpa using hx
    · rename_i hx
      rw [if_neg hx] at h
      exact epochM_from n h

/-- What Find tells: the epoch, the stripe, the error's number. -/
def findM (m : MapD) (pos : Int) : Int × Int × Int :=
  if 0 ≤ pos ∧ okMap m = true then ((epochM m pos m.length : Nat), (pos - (m.getD (epochM m pos m.length - 1) (0, 0)).1) % (m.getD (epochM m pos m.length - 1) (0, 0)).2, 0) else (0, 0, 1)

theorem IsMap.at {w : World} {a : Option Addr} {n cap : Nat} {m : MapD} (h : IsMap w (.slice a n cap) m) (t : Nat) (ht : t < m.length) : n = m.length ∧ ∃ b o, a = some ⟨b, o, none⟩ ∧ b < w.heap.size ∧ w.cell? ⟨b, o + t * 2, none⟩ = some (.int .i64 (m.getD t (0, 0)).1) ∧ w.cell? ⟨b, o + t * 2 + 1, none⟩ = some (.int .i64 (m.getD t (0, 0)).2) := by
  obtain ⟨a', cap', e, -, hc⟩ := h
  cases e
  obtain ⟨b, o, rfl, c0, c1⟩ := hc t ht
  refine ⟨rfl, b, o, rfl, World.block_lt_of_cell? w _ c0, ?_, ?_⟩
  · rw [c0, List.getD_eq_getElem?_getD, List.getElem?_eq_getElem ht]; rfl
  · rw [c1, List.getD_eq_getElem?_getD, List.getElem?_eq_getElem ht]; rfl
theorem IsMap.slice {w : World} {v : Value} {m : MapD} (h : IsMap w v m) : ∃ a cap, v = .slice a m.length cap := let ⟨a, cap, e, _, _⟩ := h; ⟨a, cap, e⟩

set_option maxHeartbeats 1000000 in
theorem mapFind_calls (v : Value) (m : MapD) (pos : Int) (w : World) (hv : IsMap w v m) (hl : m.length ≤ 1099511627776) (hpos : pos ≤ 9223372036854775807) :
    Calls Tryd.prog 10 #[v, .int .i64 pos] w fun e w' => e = .returned (.tuple #[.int .i64 (findM m pos).1, .int .i64 (findM m pos).2.1, .int .i64 (findM m pos).2.2]) ∧ Below w.heap.size w w' := by
  have C := hide (mapCheck_calls v m w hv hl)
  have Hv := hide hv
  obtain ⟨a, cap, rfl⟩ := hv.slice
  clear hv
  obtain ⟨r, hr⟩ : ∃ r, findM m pos = r := ⟨_, rfl⟩
  rw [hr]
  by_cases h0 : pos < 0
  · obtain rfl : r = (0, 0, 1) := by rw [← hr, findM, if_neg (by omega)]
    go_enter Tryd.func10, Tryd.ntmps10
    go_wp2
    go_ret3
    exact ⟨rfl, Below.refl _ _⟩
  · by_cases hok : okMap m = true
    · have hc0 : checkM m = 0 := by rw [checkM, if_pos hok]
      rw [hc0] at C
      have he := epochM_pos (pos := pos) hok (by omega) m.length (okMap_pos hok)
      have hel := epochM_le m pos m.length
      have hfr := epochM_from (m := m) (pos := pos) m.length he
      have hN := okMap_get hok (epochM m pos m.length - 1) (by omega)
      rw [findM, if_pos ⟨by omega, hok⟩] at hr
      obtain ⟨E, hE⟩ : ∃ E, epochM m pos m.length = E := ⟨_, rfl⟩
      rw [hE] at hr he hel hfr
      have hgE : m.getD (E - 1) (0, 0) = m[E - 1]'(by omega) := by rw [List.getD_eq_getElem?_getD, List.getElem?_eq_getElem (by omega)]; rfl
      have hN2 : 0 ≤ (m.getD (E - 1) (0, 0)).1 ∧ 1 ≤ (m.getD (E - 1) (0, 0)).2 := by
        rw [hgE]
        have := okMap_get hok (E - 1) (by omega)
        exact ⟨this.1, this.2.1⟩
      have HE := hide hE
      clear hN hgE hE
      go_enter Tryd.func10, Tryd.ntmps10
      go_wp2_with (go_at_call 14; refine C.out.mono ?_; rintro e w1 ⟨rfl, hB1⟩)
      have hs1 := hB1.size
      go_loop [4] (fun ep => ∃ j : Nat, ep = .int .i64 (j : Int) ∧ E ≤ j ∧ j ≤ m.length ∧ epochM m pos j = E) (fun ep => (intOf ep).toNat)
      case atStart => exact ⟨m.length, rfl, hel, Nat.le_refl _, HE.out⟩
      case round =>
        obtain ⟨j, rfl, hj1, hj2, hj3⟩ := hrel
        obtain ⟨j, rfl⟩ : ∃ i, j = i + 1 := ⟨j - 1, by omega⟩
        obtain ⟨-, b, o, rfl, hbw, c0, c1⟩ := Hv.out.at j (by omega)
        replace c0 : w1.cell? ⟨b, o + j * 2, none⟩ = _ := (hB1.cell (p := ⟨b, o + j * 2, none⟩) hbw).trans c0
        replace c1 : w1.cell? ⟨b, o + j * 2 + 1, none⟩ = _ := (hB1.cell (p := ⟨b, o + j * 2 + 1, none⟩) hbw).trans c1
        unfold epochM at hj3
        by_cases hle : (m.getD j (0, 0)).1 ≤ pos
        · rw [if_pos hle] at hj3
          subst hj3
          simp only [Nat.add_sub_cancel] at hr hfr hN2
          generalize m.getD j (0, 0) = x at *
          obtain ⟨F, Nn⟩ := x
          dsimp only at *
          subst hr
          have hgt : ¬ F > pos := by omega
          have hN0 : ¬ Nn = 0 := by omega
          have hN0' : (Nn == 0) = false := by rw [beq_eq_false_iff_ne]; exact hN0
          have hbb : b < w1.heap.size := by omega
          have c2 : (w1.alloc (.cells #[.int .i64 F, .int .i64 Nn] 48)).cell? ⟨w1.heap.size, 0, none⟩ = some (.int .i64 F) := by simp
          go_wp2
          go_region
          go_wp2
          go_ret3
          exact ⟨by simp, (hB1.alloc hB1.size _).drew⟩
        · rw [if_neg hle] at hj3
          generalize (m.getD j (0, 0)).1 = F at *
          have hgt : F > pos := by omega
          have hle2 := epochM_le m pos j
          go_wp2
          exact ⟨⟨j, rfl, by omega, by omega, hj3⟩, by simp [intOf]⟩
    · have hc0 : checkM m = 1 := by rw [checkM, if_neg hok]
      rw [hc0] at C
      obtain rfl : r = (0, 0, 1) := by rw [← hr, findM, if_neg (fun h => hok h.2)]
      go_enter Tryd.func10, Tryd.ntmps10
      go_wp2_with (go_at_call 14; refine C.out.mono ?_; rintro e w1 ⟨rfl, hB1⟩)
      go_ret3
      exact ⟨rfl, hB1⟩

end Go.Proofs.YtndhkbmgpjjepaaDoor

/- Maps in rows of one's own: slices.Clone, Grow, Concat at them; stripe's Add. Own work; no statement. -/
set_option linter.unusedSimpArgs false
set_option linter.unusedVariables false
namespace Go.Proofs.YtndhkbmgpjjepaaDoor
open Go.RowKit Go.Shelf

/-- A map's numbers, one behind the other. -/
def cellsM (m : MapD) : List Value := m.flatMap fun x => [.int .i64 x.1, .int .i64 x.2]
theorem cellsM_cons (x : Int × Int) (m : MapD) : cellsM (x :: m) = .int .i64 x.1 :: .int .i64 x.2 :: cellsM m := rfl
theorem cellsM_append (a b : MapD) : cellsM (a ++ b) = cellsM a ++ cellsM b := by simp [cellsM]
theorem cellsM_length : ∀ m : MapD, (cellsM m).length = m.length * 2
  | [] => rfl
  | x :: m => by rw [cellsM_cons]; simp [cellsM_length m]; omega
theorem cellsM_get : ∀ (m : MapD) (t : Nat) (h : t < m.length), (cellsM m)[t * 2]? = some (.int .i64 m[t].1) ∧ (cellsM m)[t * 2 + 1]? = some (.int .i64 m[t].2)
  | [], t, h => absurd h (by simp)
  | x :: m, 0, _ => ⟨rfl, rfl⟩
  | x :: m, t + 1, h => by
    have := cellsM_get m t (by simpa using h)
    rw [cellsM_cons, show (t + 1) * 2 = t * 2 + 1 + 1 by omega]
    simpa using this
theorem cellsM_one (m : MapD) : ∀ u ∈ cellsM m, u.oneCell' = true := by
  intro u hu
  simp only [cellsM, List.mem_flatMap, List.mem_cons, List.not_mem_nil, or_false] at hu
  obtain ⟨x, _, rfl | rfl⟩ := hu <;> rfl

/-- The slice v is a row of one's own that holds the map m. -/
abbrev OwnsM (w : World) (B : Nat) (v : Value) (m : MapD) : Prop := w.ownsRow B 48 2 v m.length (cellsM m)
theorem OwnsM.map {w : World} {B : Nat} {v : Value} {m : MapD} (h : OwnsM w B v m) : IsMap w v m := by
  rcases h.2 with ⟨rfl, h0⟩ | ⟨g, cap, cur, rfl, hb, hg, hnc, hcm, hcs, ht⟩
  · obtain rfl : m = [] := List.eq_nil_of_length_eq_zero h0
    exact IsMap.nil w
  · refine ⟨_, cap, rfl, (fun e => by cases e), fun t ht' => ⟨g, 0, rfl, ?_, ?_⟩⟩
    · rw [Nat.zero_add, h.cellAt _ (by omega)]
      exact (cellsM_get m t ht').1
    · rw [Nat.zero_add, h.cellAt _ (by omega)]
      exact (cellsM_get m t ht').2
/-- What lies where a slice says, nil too. -/
def SrcM (w : World) (vx : Value) (m : Nat) (news : List Value) : Prop := (vx = .slice none 0 0 ∧ m = 0 ∧ news = []) ∨ ∃ ad c, vx = .slice (some ad) m c ∧ ∀ j u, news[j]? = some u → w.cell? (ad.add j) = some u
theorem IsMap.src {w : World} {v : Value} {m : MapD} (h : IsMap w v m) : SrcM w v m.length (cellsM m) := by
  obtain ⟨a, cap, rfl, h0, hc⟩ := h
  cases a with
  | none =>
    have e : m = [] := by
      cases m with
      | nil => rfl
      | cons x r =>
        obtain ⟨b, o, e, _⟩ := hc 0 (by simp)
        cases e
    subst e
    rw [h0 rfl]
    exact .inl ⟨rfl, rfl, rfl⟩
  | some ad =>
    refine .inr ⟨ad, cap, rfl, fun j u hj => ?_⟩
    have hjl : j < m.length * 2 := by rw [← cellsM_length]; exact (List.getElem?_eq_some_iff.1 hj).1
    obtain ⟨b, o, e, c0, c1⟩ := hc (j / 2) (by omega)
    cases e
    obtain ⟨g0, g1⟩ := cellsM_get m (j / 2) (by omega)
    rw [Addr.add_lit]
    rcases Nat.mod_two_eq_zero_or_one j with h | h
    · have e : j / 2 * 2 = j := by omega
      rw [e] at g0 c0
      rw [c0, ← hj, g0]
    · have e : j / 2 * 2 + 1 = j := by omega
      rw [Nat.add_assoc, e] at c1
      rw [e] at g1
      rw [c1, ← hj, g1]
theorem wpList_append_srcM {P : Program} {w : World} {ops : Array Oper} {rest : List Oper} {o : Oper} {a : Act} {Q : Exit → Act → World → Prop} (hgd : o.guard = none) (s x : Operand) (t : TypeId)
    (ho : o.op = .call { callee := .builtin .append, args := #[s, x], argTypes := #[t, t] })
    (base : Nat) (e : TypeId) (i : TypeInfo) (z : Value) (size bytes : Nat) (ht : P.underlying t = some (.slice e)) (hi : P.info? e = some i) (hz : i.zero = some z)
    (hsize : i.size = size) (hby : i.bytes = bytes) (hzs : z.cells.size = size) (hsz : 0 < size)
    (v : Value) (n : Nat) (xs : List Value) (hs : a.eval s = v) (hown : w.ownsRow base e size v n xs)
    (vx : Value) (m : Nat) (news : List Value) (hx : a.eval x = vx) (hsrc : SrcM w vx m news) (hl : news.length = m * size) (h1 : ∀ u ∈ news, u.oneCell' = true)
    (h63 : n + m ≤ maxLen) (hbytes : (n + m) * bytes ≤ 140737488355328) (hbase : base ≤ w.heap.size)
    (h : ∀ v' w', w'.ownsRow base e size v' (n + m) (xs ++ news) → w.grownBy w' v.ownBlock → wpList P ops Q rest (a.put o.dst v') w') : wpList P ops Q (o :: rest) a w := by
  rcases hsrc with ⟨rfl, rfl, rfl⟩ | ⟨ad, c, rfl, hc⟩
  · refine wpList_append_own_none hgd s x t ho base e i size ht hi v n xs hs hown hx (h v w (by rw [List.append_nil]; exact hown) (World.grownBy.refl _ _))
  · exact wpList_append_own w hgd s x t ho base e i z size bytes ht hi hz hsize hby hzs hsz v n xs hs hown ad m c news hx hl hc h1 h63 hbytes hbase fun v' w' h2 h3 _ => h v' w' h2 h3

theorem Tryd.info48 : (Tryd.prog.info? 48).map (fun i => (i.zero, i.size, i.bytes)) = some (some (.agg #[.int .i64 0, .int .i64 0]), 2, 16) := by kernel_rfl

theorem mapClone_calls (v : Value) (m : MapD) (w : World) (hv : IsMap w v m) (h0 : 0 < m.length) (hl : m.length ≤ 1099511627776) :
    Calls Tryd.prog 31 #[v] w fun e w' => ∃ v', e = .returned v' ∧ OwnsM w' w.heap.size v' m ∧ Below w.heap.size w w' := by
  obtain ⟨i0, hi0, hz0, hz1, hz2⟩ := info_parts Tryd.info48
  obtain ⟨a, cap, rfl, -, hc⟩ := id hv
  obtain ⟨b, o, rfl, -⟩ := hc 0 h0
  rcases hv.src with ⟨e, -⟩ | ⟨ad, c, e, hc⟩
  · cases e
  · cases e
    refine (AnyE.slices_Clone Tryd.laysCloneSpan i0 _ 2 16 hi0 hz0 hz1 hz2 rfl (by decide) (fun w => Tryd.sizeOf48 w) b o m.length cap (cellsM m) w (cellsM_length m) (by unfold maxLen; omega) (by omega) (fun j u hu => ?_) (cellsM_one m)).mono ?_
    · have := hc j u hu
      rwa [Addr.add_lit] at this
    · rintro e w' ⟨v', rfl, hown, -, hB⟩
      exact ⟨v', rfl, hown, hB⟩

theorem mapGrow_calls (n : Nat) (h0 : 0 < n) (hn : n ≤ 1099511627776) (w : World) :
    Calls Tryd.prog 35 #[.slice none 0 0, .int .i64 (n : Int)] w fun e w' => ∃ v', e = .returned v' ∧ OwnsM w' w.heap.size v' [] ∧ Below w.heap.size w w' := by
  obtain ⟨i0, hi0, hz0, hz1, hz2⟩ := info_parts Tryd.info48
  have hrz : ∀ ty, (Builtin.append_ #[23, 3] ty #[.slice none 0 0, .int .i64 (n : Int)]).run Tryd.prog w = _ := fun ty =>
    Lib.run_append_nil_zeros w 23 3 ty 48 i0 _ .i64 .i64 Tryd.underlying23 Tryd.underlying3 hi0 hz0 n h0 (by omega) (by omega) (by rw [hz2]; omega)
  obtain ⟨G, hG⟩ : ∃ G, G = grownCap w n 0 48 := ⟨_, rfl⟩
  rw [← hG] at hrz
  have hGn : n ≤ G := by rw [hG]; exact grownCap_ge w _ _ _
  have hGm : G ≤ maxLen := by rw [hG]; exact grownCap_le_maxLen w n 0 48 (by unfold maxLen; omega)
  have hG63 : G ≤ 9223372036854775807 := by unfold maxLen at hGm; omega
  obtain ⟨ROW, hROW⟩ : ∃ ROW : Array Value, ROW = Builtin.zeroCells (Value.agg #[.int .i64 0, .int .i64 0]).cells n ++ Builtin.zeroCells (Value.agg #[.int .i64 0, .int .i64 0]).cells (G - n) := ⟨_, rfl⟩
  rw [← hROW] at hrz
  have hRl : ROW.size = G * 2 := by
    rw [hROW]
    simp [Builtin.zeroCells, Value.cells]
    omega
  obtain ⟨W1, hW1⟩ : ∃ W1, W1 = w.drew.alloc (.cells ROW 48) := ⟨_, rfl⟩
  rw [← hW1] at hrz
  have hb1 : W1.heap[w.heap.size]? = some (.cells ROW 48 (0, 0)) := by rw [hW1]; exact World.alloc_heap_new w.drew _
  have hB1 : Below w.heap.size w W1 := by rw [hW1]; exact ((Below.refl _ w).drew).alloc (Nat.le_refl _) _
  have hGnI : ¬ (n : Int) < 0 := by omega
  have h0I : (n : Int) > 0 := by omega
  clear hG hROW hW1
  go_enter Tryd.func35, Tryd.ntmps35
  go_wp2_with (at_builtin; refine Lib.wpList_append_run _ rfl _ _ 23 3 rfl _ _ rfl rfl _ _ (hrz _) ?_)
  go_ret
  exact ⟨_, rfl, ⟨rfl, .inr ⟨w.heap.size, G, ROW, rfl, Nat.le_refl _, hb1, Nat.zero_le _, hGm, hRl, by simp [cellsM]⟩⟩, hB1⟩

set_option maxHeartbeats 2000000 in
set_option maxRecDepth 100000 in
theorem mapConcat_calls (va vb : Value) (x y : MapD) (b : Nat) (w : World) (ha : IsMap w va x) (hb : IsMap w vb y) (h0 : 0 < x.length + y.length) (hl : x.length + y.length ≤ 1099511627776) (hc0 : w.cell? ⟨b, 0, none⟩ = some va) (hc1 : w.cell? ⟨b, 1, none⟩ = some vb) :
    Calls Tryd.prog 24 #[.slice (some ⟨b, 0, none⟩) 2 2] w fun e w' => ∃ v', e = .returned v' ∧ OwnsM w' w.heap.size v' (x ++ y) ∧ Below w.heap.size w w' := by
  obtain ⟨i0, hi0, hz0, hz1, hz2⟩ := info_parts Tryd.info48
  have Ha := hide ha
  have Hb := hide hb
  obtain ⟨aa, ca, rfl⟩ := ha.slice
  obtain ⟨ab, cb, rfl⟩ := hb.slice
  clear ha hb
  have hbw : b < w.heap.size := World.block_lt_of_cell? w _ hc0
  have hs1 : ¬ ((x.length : Int) < 0) := by omega
  have hs2 : ¬ ((x.length : Int) + (y.length : Int) < 0) := by omega
  have G := hide (mapGrow_calls (x.length + y.length) h0 hl w)
  rw [show ((x.length + y.length : Nat) : Int) = (x.length : Int) + (y.length : Int) by omega] at G
  go_enter Tryd.func24, Tryd.ntmps24
  go_wp2
  refine wp_loop_rounds 3 ?_
  rw [rounds_succ]
  go_wp2
  rw [rounds_succ]
  go_wp2
  rw [rounds_succ]
  go_wp2_with (go_at_call 35; refine G.out.mono ?_; rintro e w1 ⟨v1, rfl, hown1, hB1⟩)
  have d0 : w1.cell? ⟨b, 0, none⟩ = _ := (hB1.cell (p := ⟨b, 0, none⟩) hbw).trans hc0
  have d1 : w1.cell? ⟨b, 1, none⟩ = _ := (hB1.cell (p := ⟨b, 1, none⟩) hbw).trans hc1
  have hbs1 := hB1.size
  have Sa := hide (Ha.out.below hB1).src
  clear hc0 hc1 G
  refine wp_loop_rounds 3 ?_
  rw [rounds_succ]
  go_wp2_with (at_builtin; refine wpList_append_srcM rfl _ _ 23 rfl w.heap.size 48 i0 _ 2 16 Tryd.underlying23 hi0 hz0 hz1 hz2 rfl (by decide) _ _ _ rfl hown1 _ x.length (cellsM x) rfl Sa.out (cellsM_length x) (cellsM_one x) (by unfold maxLen; simp; omega) (by simp; omega) hbs1 ?_; intro v2 w2 hown2 hgrow2; clear Sa)
  have hB2 : Below w.heap.size w w2 := hB1.grown hgrow2 hB1.size (fun k hk => (hown1.lt k hk).1)
  have hbs2 := hB2.size
  have e0 : w2.cell? ⟨b, 0, none⟩ = _ := (hB2.cell (p := ⟨b, 0, none⟩) hbw).trans ((hB1.cell (p := ⟨b, 0, none⟩) hbw).symm.trans d0)
  have e1 : w2.cell? ⟨b, 1, none⟩ = _ := (hB2.cell (p := ⟨b, 1, none⟩) hbw).trans ((hB1.cell (p := ⟨b, 1, none⟩) hbw).symm.trans d1)
  have Sb := hide (Hb.out.below hB2).src
  rw [show ([] : MapD).length + x.length = x.length by simp, show cellsM [] ++ cellsM x = cellsM x from rfl] at hown2
  clear d0 d1 hown1 hgrow2
  rw [rounds_succ]
  go_wp2_with (at_builtin; refine wpList_append_srcM rfl _ _ 23 rfl w.heap.size 48 i0 _ 2 16 Tryd.underlying23 hi0 hz0 hz1 hz2 rfl (by decide) _ _ _ rfl hown2 _ y.length (cellsM y) rfl Sb.out (cellsM_length y) (cellsM_one y) (by unfold maxLen; omega) (by omega) hbs2 ?_; intro v3 w3 hown3 hgrow3; clear Sb)
  have hB3 : Below w.heap.size w w3 := hB2.grown hgrow3 hB2.size (fun k hk => (hown2.lt k hk).1)
  clear hgrow3
  rw [rounds_succ]
  go_wp2
  go_ret
  exact ⟨_, rfl, by rw [OwnsM, List.length_append, cellsM_append]; exact hown3, hB3⟩

/-- A map with a span more, and Check's number of it; refused: none. -/
def addM (m : MapD) (from_ n : Int) : MapD := if okMap (m ++ [(from_, n)]) then m ++ [(from_, n)] else []

set_option maxHeartbeats 2000000 in
set_option maxRecDepth 100000 in
theorem mapAdd_calls (v : Value) (m : MapD) (f n : Int) (w : World) (hv : IsMap w v m) (hl : m.length + 1 ≤ 1099511627776) :
    Calls Tryd.prog 12 #[v, .int .i64 f, .int .i64 n] w fun e w' => ∃ v', e = .returned (.tuple #[v', .int .i64 (checkM (m ++ [(f, n)]))]) ∧ OwnsM w' w.heap.size v' (addM m f n) ∧ Below w.heap.size w w' := by
  obtain ⟨a, cap, rfl⟩ := hv.slice
  obtain ⟨w0, hw0⟩ : ∃ w0, (w.alloc (.cells #[.int .i64 f, .int .i64 n] 48)).alloc (.cells #[.slice a m.length cap, .slice (some ⟨w.heap.size, 0, none⟩) 1 1] 23) = w0 := ⟨_, rfl⟩
  have hB0 : Below w.heap.size w w0 := by rw [← hw0]; exact ((Below.refl _ w).alloc (Nat.le_refl _) _).alloc (by simp) _
  have hs0 : w0.heap.size = w.heap.size + 2 := by rw [← hw0]; simp
  have hb0 : w0.heap[w.heap.size]? = some (.cells #[.int .i64 f, .int .i64 n] 48 (0, 0)) := by
    rw [← hw0]
    exact (Below.heap_alloc _ _ _ (by simp)).trans (World.alloc_heap_new w _)
  have hb1 : w0.heap[w.heap.size + 1]? = some (.cells #[.slice a m.length cap, .slice (some ⟨w.heap.size, 0, none⟩) 1 1] 23 (0, 0)) := by
    rw [← hw0]
    have := World.alloc_heap_new (w.alloc (.cells #[.int .i64 f, .int .i64 n] 48)) (.cells #[.slice a m.length cap, .slice (some ⟨w.heap.size, 0, none⟩) 1 1] 23)
    rwa [World.size_alloc] at this
  have hy : IsMap w0 (.slice (some ⟨w.heap.size, 0, none⟩) 1 1) [(f, n)] := ⟨_, 1, rfl, (fun e => by cases e), fun t ht => by
    have e : t = 0 := by simpa using ht
    subst e
    exact ⟨w.heap.size, 0, rfl, by simpa using cellsAt hb0 0, by simpa using cellsAt hb0 1⟩⟩
  have C := hide (mapConcat_calls _ _ m [(f, n)] (w.heap.size + 1) w0 (hv.below hB0) hy (by simp) (by simpa using hl) (by simpa using cellsAt hb1 0) (by simpa using cellsAt hb1 1))
  have Hw := hide hw0
  clear hv hw0 hb0 hb1 hy
  obtain ⟨L, hL⟩ : ∃ L, m ++ [(f, n)] = L := ⟨_, rfl⟩
  have hLl : L.length ≤ 1099511627776 := by rw [← hL]; simpa using hl
  unfold addM
  rw [hL] at C ⊢
  clear hL hl
  by_cases hok : okMap L = true
  · have hc0 : checkM L = 0 := by rw [checkM, if_pos hok]
    rw [if_pos hok, hc0]
    go_enter Tryd.func12, Tryd.ntmps12
    go_wp2_with fail
    rw [Hw.out]
    refine C.out.mono ?_
    rintro e w1 ⟨v1, rfl, hown1, hB1⟩
    have K := hide (mapCheck_calls _ L w1 (OwnsM.map hown1) (by omega))
    obtain ⟨a1, cap1, rfl⟩ := ownsRow_slice hown1
    rw [hc0] at K
    clear C Hw
    go_wp2_with (go_at_call 14; refine K.out.mono ?_; rintro e w2 ⟨rfl, hB2⟩)
    go_ret2
    exact ⟨_, rfl, ownsRow_low (ownsRow_of_heap hown1 fun k e => hB2.block k (hown1.lt k e).2) (by omega), (hB0.trans (hB1.mono hB0.size)).trans (hB2.mono (hB0.trans (hB1.mono hB0.size)).size)⟩
  · have hc0 : checkM L = 1 := by rw [checkM, if_neg hok]
    rw [if_neg hok, hc0]
    go_enter Tryd.func12, Tryd.ntmps12
    go_wp2_with fail
    rw [Hw.out]
    refine C.out.mono ?_
    rintro e w1 ⟨v1, rfl, hown1, hB1⟩
    have K := hide (mapCheck_calls _ L w1 (OwnsM.map hown1) (by omega))
    obtain ⟨a1, cap1, rfl⟩ := ownsRow_slice hown1
    rw [hc0] at K
    clear C Hw
    go_wp2_with (go_at_call 14; refine K.out.mono ?_; rintro e w2 ⟨rfl, hB2⟩)
    go_ret2
    exact ⟨_, rfl, World.ownsRow_nil _ _ _ _, (hB0.trans (hB1.mono hB0.size)).trans (hB2.mono (hB0.trans (hB1.mono hB0.size)).size)⟩

end Go.Proofs.YtndhkbmgpjjepaaDoor

/- stripe's Text. Own work; no statement. -/
set_option linter.unusedSimpArgs false
set_option linter.unusedVariables false
namespace Go.Proofs.YtndhkbmgpjjepaaDoor
open Go.RowKit Go.Shelf

/-- A span in words. -/
def spanB (x : Int × Int) : List UInt8 := Lib.itoa x.1 ++ ([47] ++ Lib.itoa x.2)
/-- The first k spans in words, with blanks between. -/
def spansTo (m : MapD) : Nat → List UInt8
  | 0 => []
  | k + 1 => spansTo m k ++ ((if k = 0 then [] else [32]) ++ spanB (m.getD k (0, 0)))
/-- A map in words. -/
def textM (m : MapD) : List UInt8 := spansTo m m.length

theorem getD_mapR {m : MapD} (h : MapR m) (k : Nat) : (-9223372036854775808 ≤ (m.getD k (0, 0)).1 ∧ (m.getD k (0, 0)).1 ≤ 9223372036854775807) ∧ (-9223372036854775808 ≤ (m.getD k (0, 0)).2 ∧ (m.getD k (0, 0)).2 ≤ 9223372036854775807) := by
  by_cases hk : k < m.length
  · rw [List.getD_eq_getElem?_getD, List.getElem?_eq_getElem hk]
    exact h _ (List.getElem_mem hk)
  · rw [List.getD_eq_getElem?_getD, List.getElem?_eq_none (by omega)]
    simp

theorem spanB_length {x : Int × Int} (h : (-9223372036854775808 ≤ x.1 ∧ x.1 ≤ 9223372036854775807) ∧ (-9223372036854775808 ≤ x.2 ∧ x.2 ≤ 9223372036854775807)) : (spanB x).length ≤ 43 := by
  have h1 := Lib.itoa_length_le x.1 h.1.1 h.1.2
  have h2 := Lib.itoa_length_le x.2 h.2.1 h.2.2
  simp only [spanB, List.length_append, List.length_cons, List.length_nil]
  omega
theorem spansTo_length {m : MapD} (h : MapR m) : ∀ k, (spansTo m k).length ≤ 44 * k
  | 0 => by simp [spansTo]
  | k + 1 => by
    have h1 := spansTo_length h k
    have h2 := spanB_length (getD_mapR h k)
    have h3 : ((if k = 0 then [] else [32] : List UInt8)).length ≤ 1 := by split <;> simp
    simp only [spansTo, List.length_append]
    omega
theorem len_snoc (l : List UInt8) (c : UInt8) : (l ++ [c]).length = l.length + 1 := by simp
theorem snoc47 (l : List UInt8) : Lib.byteCells l ++ [.int .u8 47] = Lib.byteCells (l ++ [47]) := by simp [Lib.byteCells]

/-- What is no row of e's lies as it lay when a row of e's grows. -/
theorem kept_row {W W' : World} {B : Nat} {e : TypeId} {s : Nat} {v : Value} {n : Nat} {xs : List Value} {k : Nat} {o : Obj} (hown : W.ownsRow B e s v n xs) (hg : W.grownBy W' v.ownBlock) (hk : W.heap[k]? = some o) (ho : ∀ c fz, o ≠ .cells c e fz) : W'.heap[k]? = some o :=
  (Lib.OthersKept.refl e none W).grown hg (fun g hg' => by
    rcases hown.2 with ⟨rfl, _⟩ | ⟨g', cap, cur, rfl, _, h, _⟩
    · cases hg'
    · cases hg'
      exact ⟨_, _, h⟩) k o hk (fun e => by cases e) ho
theorem notU8 {x y : Value} : ∀ c fz, Obj.cells #[x, y] 48 (0, 0) ≠ .cells c 5 fz := fun c fz e => by
  simp only [Obj.cells.injEq] at e
  exact absurd e.2.1 (by decide)
theorem app_u8 {W W0 w1 : World} {B : Nat} {v : Value} {L : List UInt8} {k : Nat} {o : Obj} (hB : Below B W0 W) (hBs : B ≤ W.heap.size) (hown : W.ownsRow B 5 1 v L.length (Lib.byteCells L)) (hk : W.heap[k]? = some o) (ho : ∀ c fz, o ≠ .cells c 5 fz) (x : Value) (hgrow : (W.alloc (.cells #[x] 5)).grownBy w1 v.ownBlock) : Below B W0 w1 ∧ w1.heap[k]? = some o := by
  have hown' := World.ownsRow.alloc hown (.cells #[x] 5)
  exact ⟨(hB.alloc hBs _).grown hgrow (by simp; omega) (fun j hj => (hown.lt j hj).1), kept_row hown' hgrow ((Below.heap_alloc _ _ _ (ltAt hk)).trans hk) ho⟩

set_option maxHeartbeats 2000000 in
set_option maxRecDepth 20000 in
theorem mapText_calls (v : Value) (m : MapD) (w : World) (hv : IsMap w v m) (hl : m.length ≤ 4294967296) (hr : MapR m) (hp : Pow w) :
    Calls Tryd.prog 17 #[v] w fun e w' => e = .returned (.string ⟨(textM m).toArray⟩) ∧ Below w.heap.size w w' := by
  obtain ⟨i0, hi, hz0, hz1, hz2⟩ := info_parts Tryd.info5
  have Hv := hide hv
  obtain ⟨a, cap, rfl⟩ := hv.slice
  have HR := hide hr
  have HP := hide hp
  clear hv hr hp
  go_enter Tryd.func17, Tryd.ntmps17
  go_wp2_with fail
  go_loopw [3, 8] (fun v i wr => ∃ k : Nat, i = .int .i64 (k : Int) ∧ k ≤ m.length ∧ wr.ownsRow w.heap.size 5 1 v (spansTo m k).length (Lib.byteCells (spansTo m k)) ∧ Below w.heap.size w wr) (fun _ i _ => m.length - (intOf i).toNat)
  case atStart => exact ⟨0, rfl, Nat.zero_le _, World.ownsRow_nil _ _ _ _, Below.refl _ _⟩
  case round =>
    obtain ⟨k, rfl, hkn, hown, hB⟩ := hrel
    have hnl := spansTo_length HR.out k
    have hbs := hB.size
    by_cases hk : k < m.length
    · have hlt : (k : Int) < (m.length : Int) := by omega
      obtain ⟨-, b, o, rfl, hbw, c0, c1⟩ := Hv.out.at k hk
      replace c0 : wr.cell? ⟨b, o + k * 2, none⟩ = _ := (hB.cell (p := ⟨b, o + k * 2, none⟩) hbw).trans c0
      replace c1 : wr.cell? ⟨b, o + k * 2 + 1, none⟩ = _ := (hB.cell (p := ⟨b, o + k * 2 + 1, none⟩) hbw).trans c1
      have hxr := getD_mapR HR.out k
      have hsucc : spansTo m (k + 1) = spansTo m k ++ ((if k = 0 then [] else [32]) ++ spanB (m.getD k (0, 0))) := rfl
      generalize m.getD k (0, 0) = x at *
      obtain ⟨p, q⟩ := x
      dsimp only at *
      obtain ⟨L, hL⟩ : ∃ L, spansTo m k = L := ⟨_, rfl⟩
      rw [hL] at hown hnl hsucc
      unfold spanB at hsucc
      have hpl := Lib.itoa_length_le p hxr.1.1 hxr.1.2
      have hql := Lib.itoa_length_le q hxr.2.1 hxr.2.2
      have Hsucc := hide hsucc
      have Hxr := hide hxr
      clear hsucc hL hxr Hv HR
      have hwa := World.alloc_heap_new wr (.cells #[.int .i64 p, .int .i64 q] 48)
      have hBa : Below w.heap.size w (wr.alloc (.cells #[.int .i64 p, .int .i64 q] 48)) := hB.alloc hB.size _
      have howna := World.ownsRow.alloc hown (.cells #[.int .i64 p, .int .i64 q] 48)
      have hsa : (wr.alloc (.cells #[.int .i64 p, .int .i64 q] 48)).heap.size = wr.heap.size + 1 := by simp
      have hsb : w.heap.size ≤ (wr.alloc (.cells #[.int .i64 p, .int .i64 q] 48)).heap.size := by omega
      by_cases hk0 : k = 0
      · have hk1 : ¬ 0 < (k : Int) := by omega
        rw [if_pos hk0] at Hsucc
        have Hk0 := hide hk0
        clear hk0
        go_wp2_with (first | (go_at_call 25; refine (Tryd.strconv_AppendInt_10 w.heap.size _ p Hxr.out.1.1 Hxr.out.1.2 _ _ _ howna hsb (by (try simp only [List.length_append, List.length_cons, List.length_nil]); omega) (Lib.TabBelow.on HP.out hBa)).mono ?_; rintro e w1 ⟨v1, rfl, hown1, hT1, hO1⟩; rw [← Lib.byteCells_append, ← List.length_append] at hown1; have hB1 : Below w.heap.size w w1 := hBa.trans hT1; have hs1 := hB1.size; have hw1 := hO1 _ _ hwa (fun e => by cases e) notU8; have d1 := cellsAt hw1 0; have e1 := cellsAt hw1 1; simp only [List.getElem?_toArray, List.getElem?_cons_zero, List.getElem?_cons_succ] at d1 e1; clear howna hT1 hO1) | (at_builtin; refine wpList_append_own _ rfl (.tmp 22) _ 57 rfl w.heap.size 5 i0 (.int .u8 0) 1 1 Tryd.underlying57 hi hz0 hz1 hz2 rfl (by decide) _ _ _ rfl (World.ownsRow.alloc hown1 _) ⟨_, 0, none⟩ 1 1 [.int .u8 47] rfl rfl (cell_one_at (by simp)) (by intro u hu; simp at hu; subst hu; rfl) (by unfold maxLen; (try simp only [List.length_append, List.length_cons, List.length_nil]); omega) (by (try simp only [List.length_append, List.length_cons, List.length_nil]); omega) (by simp; omega) ?_; intro v2 w2 hown2 hg2 _; rw [snoc47, ← len_snoc _ 47] at hown2; obtain ⟨hB2, hw2⟩ := app_u8 hB1 hs1 hown1 hw1 notU8 _ hg2; have hs2 := hB2.size; have d2 := cellsAt hw2 0; have e2 := cellsAt hw2 1; simp only [List.getElem?_toArray, List.getElem?_cons_zero, List.getElem?_cons_succ] at d2 e2; clear hown1 hg2) | (go_at_call 25; refine (Tryd.strconv_AppendInt_10 w.heap.size _ q Hxr.out.2.1 Hxr.out.2.2 _ _ _ hown2 hs2 (by (try simp only [List.length_append, List.length_cons, List.length_nil]); omega) (Lib.TabBelow.on HP.out hB2)).mono ?_; rintro e w3 ⟨v3, rfl, hown3, hT3, hO3⟩; rw [← Lib.byteCells_append, ← List.length_append] at hown3; have hB3 : Below w.heap.size w w3 := hB2.trans hT3; have hs3 := hB3.size; have hw3 := hO3 _ _ hw2 (fun e => by cases e) notU8; have d3 := cellsAt hw3 0; have e3 := cellsAt hw3 1; simp only [List.getElem?_toArray, List.getElem?_cons_zero, List.getElem?_cons_succ] at d3 e3; clear hown2 hT3 hO3))
        refine ⟨⟨k + 1, by go_num, by omega, ?_, hB3⟩, by simp [intOf]; omega⟩
        rw [Hsucc.out]
        simpa only [List.nil_append, List.append_assoc] using hown3
      · have hk1 : 0 < (k : Int) := by omega
        rw [if_neg hk0] at Hsucc
        go_wp2_with (first | (at_builtin; refine wpList_append_own _ rfl (.tmp 15) _ 57 rfl w.heap.size 5 i0 (.int .u8 0) 1 1 Tryd.underlying57 hi hz0 hz1 hz2 rfl (by decide) _ _ _ rfl (World.ownsRow.alloc howna _) ⟨_, 0, none⟩ 1 1 [.int .u8 32] rfl rfl (cell_one_at (by simp)) (by intro u hu; simp at hu; subst hu; rfl) (by unfold maxLen; (try simp only [List.length_append, List.length_cons, List.length_nil]); omega) (by (try simp only [List.length_append, List.length_cons, List.length_nil]); omega) (by simp; omega) ?_; intro v0 w0 hown0 hg0 _; rw [snoc32, ← len_snoc _ 32] at hown0; obtain ⟨hB0, hw0⟩ := app_u8 hBa hsb howna hwa notU8 _ hg0; have hs0 := hB0.size; have d0 := cellsAt hw0 0; have e0 := cellsAt hw0 1; simp only [List.getElem?_toArray, List.getElem?_cons_zero, List.getElem?_cons_succ] at d0 e0; clear howna hg0) | (go_at_call 25; refine (Tryd.strconv_AppendInt_10 w.heap.size _ p Hxr.out.1.1 Hxr.out.1.2 _ _ _ hown0 hs0 (by (try simp only [List.length_append, List.length_cons, List.length_nil]); omega) (Lib.TabBelow.on HP.out hB0)).mono ?_; rintro e w1 ⟨v1, rfl, hown1, hT1, hO1⟩; rw [← Lib.byteCells_append, ← List.length_append] at hown1; have hB1 : Below w.heap.size w w1 := hB0.trans hT1; have hs1 := hB1.size; have hw1 := hO1 _ _ hw0 (fun e => by cases e) notU8; have d1 := cellsAt hw1 0; have e1 := cellsAt hw1 1; simp only [List.getElem?_toArray, List.getElem?_cons_zero, List.getElem?_cons_succ] at d1 e1; clear hown0 hT1 hO1) | (at_builtin; refine wpList_append_own _ rfl (.tmp 22) _ 57 rfl w.heap.size 5 i0 (.int .u8 0) 1 1 Tryd.underlying57 hi hz0 hz1 hz2 rfl (by decide) _ _ _ rfl (World.ownsRow.alloc hown1 _) ⟨_, 0, none⟩ 1 1 [.int .u8 47] rfl rfl (cell_one_at (by simp)) (by intro u hu; simp at hu; subst hu; rfl) (by unfold maxLen; (try simp only [List.length_append, List.length_cons, List.length_nil]); omega) (by (try simp only [List.length_append, List.length_cons, List.length_nil]); omega) (by simp; omega) ?_; intro v2 w2 hown2 hg2 _; rw [snoc47, ← len_snoc _ 47] at hown2; obtain ⟨hB2, hw2⟩ := app_u8 hB1 hs1 hown1 hw1 notU8 _ hg2; have hs2 := hB2.size; have d2 := cellsAt hw2 0; have e2 := cellsAt hw2 1; simp only [List.getElem?_toArray, List.getElem?_cons_zero, List.getElem?_cons_succ] at d2 e2; clear hown1 hg2) | (go_at_call 25; refine (Tryd.strconv_AppendInt_10 w.heap.size _ q Hxr.out.2.1 Hxr.out.2.2 _ _ _ hown2 hs2 (by (try simp only [List.length_append, List.length_cons, List.length_nil]); omega) (Lib.TabBelow.on HP.out hB2)).mono ?_; rintro e w3 ⟨v3, rfl, hown3, hT3, hO3⟩; rw [← Lib.byteCells_append, ← List.length_append] at hown3; have hB3 : Below w.heap.size w w3 := hB2.trans hT3; have hs3 := hB3.size; have hw3 := hO3 _ _ hw2 (fun e => by cases e) notU8; have d3 := cellsAt hw3 0; have e3 := cellsAt hw3 1; simp only [List.getElem?_toArray, List.getElem?_cons_zero, List.getElem?_cons_succ] at d3 e3; clear hown2 hT3 hO3))
        refine ⟨⟨k + 1, by go_num, by omega, ?_, hB3⟩, by simp [intOf]; omega⟩
        rw [Hsucc.out]
        simpa only [List.nil_append, List.append_assoc] using hown3
    · obtain ⟨pa, ca, rfl⟩ := ownsRow_slice hown
      have hcv := conv_row (dst := 9) hown Tryd.underlying57 Tryd.underlying5 Tryd.underlying9
      go_wp2
      go_ret
      have e : k = m.length := by omega
      subst e
      exact ⟨rfl, hB⟩

end Go.Proofs.YtndhkbmgpjjepaaDoor

/- stripe's parseSpan, parseSpans, Parse. Own work; no statement. -/
set_option linter.unusedSimpArgs false
set_option linter.unusedVariables false
namespace Go.Proofs.YtndhkbmgpjjepaaDoor
open Go.RowKit Go.Shelf

/-- A word as a span. -/
def spanL (l : List UInt8) : (Int × Int) × Bool :=
  if (numL (cutL l 47).1).2 = true ∧ (numL (cutL l 47).2.1).2 = true then (((numL (cutL l 47).1).1, (numL (cutL l 47).2.1).1), true) else ((0, 0), false)

/-- A struct of two cells, stored whole. -/
theorem put2 {W w : World} {b B : Nat} {x y : Value} {t : TypeId} {f : Nat × Nat} (h : W.heap[b]? = some (.cells #[x, y] t f)) (hB : Below B w W) (hb : B ≤ b) (u v : Value) :
    ((W.setCell ⟨b, 0, none⟩ u).setCell ⟨b, 1, none⟩ v).heap[b]? = some (.cells #[u, v] t f) ∧ ((W.setCell ⟨b, 0, none⟩ u).setCell ⟨b, 1, none⟩ v).cell? ⟨b, 0, none⟩ = some u ∧ ((W.setCell ⟨b, 0, none⟩ u).setCell ⟨b, 1, none⟩ v).cell? ⟨b, 1, none⟩ = some v ∧ Below B w ((W.setCell ⟨b, 0, none⟩ u).setCell ⟨b, 1, none⟩ v) := by
  have h2 := set1 (j := 1) (set1 (j := 0) h u) v
  simp only [List.setIfInBounds_toArray, List.set_cons_zero, List.set_cons_succ] at h2
  exact ⟨h2, by rw [cell_at h2]; rfl, by rw [cell_at h2]; rfl, (hB.setCell (p := ⟨b, 0, none⟩) hb u).setCell (p := ⟨b, 1, none⟩) hb v⟩

set_option maxHeartbeats 1000000 in
theorem parseSpan_calls (l : List UInt8) (w : World) (hs : l.length ≤ 1099511627776) :
    Calls Tryd.prog 38 #[.string ⟨l.toArray⟩] w fun e w' => e = .returned (.tuple #[.agg #[.int .i64 (spanL l).1.1, .int .i64 (spanL l).1.2], .bool (spanL l).2]) ∧ Below w.heap.size w w' := by
  have hlen := cutL_length l 47
  have C := hide fun w => cut_calls l 47 w hs
  obtain ⟨r, hr⟩ : ∃ r, spanL l = r := ⟨_, rfl⟩
  rw [hr]
  unfold spanL at hr
  generalize cutL l 47 = c at *
  obtain ⟨p, q, ok⟩ := c
  dsimp only at *
  have P1 := hide fun w => numParse_calls ⟨p.toArray⟩ w (by simp [ByteArray.size]; omega)
  have P2 := hide fun w => numParse_calls ⟨q.toArray⟩ w (by simp [ByteArray.size]; omega)
  rw [show (⟨p.toArray⟩ : ByteArray).data.toList = p from rfl] at P1
  rw [show (⟨q.toArray⟩ : ByteArray).data.toList = q from rfl] at P2
  generalize numL p = a at *
  generalize numL q = b at *
  obtain ⟨a, ia⟩ := a
  obtain ⟨b, ib⟩ := b
  dsimp only at *
  have K : Hid (∀ w1 n, w1 = (w.alloc (.cells #[.int .i64 0, .int .i64 0] 48)).drewN n → Below w.heap.size w w1 ∧ w1.heap[w.heap.size]? = some (.cells #[.int .i64 0, .int .i64 0] 48 (0, 0)) ∧ w1.cell? ⟨w.heap.size, 0, none⟩ = some (.int .i64 0) ∧ w1.cell? ⟨w.heap.size, 1, none⟩ = some (.int .i64 0) ∧ w1.frozen? ⟨w.heap.size, 0, none⟩ = false ∧ w1.frozen? ⟨w.heap.size, 1, none⟩ = false ∧ w1.heap.size = w.heap.size + 1) := by
    rintro w1 n rfl
    have h : ((w.alloc (.cells #[.int .i64 0, .int .i64 0] 48)).drewN n).heap[w.heap.size]? = some (.cells #[.int .i64 0, .int .i64 0] 48 (0, 0)) := World.alloc_heap_new w _
    exact ⟨((Below.refl _ w).alloc (Nat.le_refl _) _).trans (below_draws n), h, cellsAt h 0, cellsAt h 1, frozenAt h 0, frozenAt h 1, by simp [World.drewN]⟩
  cases ia with
  | false =>
    rw [if_neg (by simp)] at hr
    subst hr
    go_enter Tryd.func38, Tryd.ntmps38
    go_wp2_with (first | (go_at_call 43; refine (C.out _).mono ?_; rintro e w1 ⟨rfl, n, hw1⟩; obtain ⟨hB1, hb1, d0, d1, f0, f1, hs1⟩ := K.out w1 n hw1; replace hb1 := hide hb1; clear C hw1 K) | (go_at_call 44; refine (P1.out _).mono ?_; rintro e w2 ⟨rfl, rfl⟩; clear P1) | (go_at_call 44; refine (P2.out _).mono ?_; rintro e w2 ⟨rfl, rfl⟩; clear P2))
    obtain ⟨-, k0, k1, hB2⟩ := put2 hb1.out hB1 (Nat.le_refl _) (.int .i64 0) (.int .i64 0)
    exact bodyPost_ret (v := .tuple #[.agg #[.int .i64 0, .int .i64 0], .bool false]) (by simp [results, Tryd.f38, go_sem, k0, k1]) rfl ⟨rfl, hB2⟩
  | true =>
    cases ib with
    | false =>
      rw [if_neg (by simp)] at hr
      subst hr
      go_enter Tryd.func38, Tryd.ntmps38
      go_wp2_with (first | (go_at_call 43; refine (C.out _).mono ?_; rintro e w1 ⟨rfl, n, hw1⟩; obtain ⟨hB1, hb1, d0, d1, f0, f1, hs1⟩ := K.out w1 n hw1; replace hb1 := hide hb1; clear C hw1 K) | (go_at_call 44; refine (P1.out _).mono ?_; rintro e w2 ⟨rfl, rfl⟩; clear P1) | (go_at_call 44; refine (P2.out _).mono ?_; rintro e w2 ⟨rfl, rfl⟩; clear P2))
      obtain ⟨-, k0, k1, hB2⟩ := put2 hb1.out hB1 (Nat.le_refl _) (.int .i64 0) (.int .i64 0)
      exact bodyPost_ret (v := .tuple #[.agg #[.int .i64 0, .int .i64 0], .bool false]) (by simp [results, Tryd.f38, go_sem, k0, k1]) rfl ⟨rfl, hB2⟩
    | true =>
      rw [if_pos (by simp)] at hr
      subst hr
      go_enter Tryd.func38, Tryd.ntmps38
      go_wp2_with (first | (go_at_call 43; refine (C.out _).mono ?_; rintro e w1 ⟨rfl, n, hw1⟩; obtain ⟨hB1, hb1, d0, d1, f0, f1, hs1⟩ := K.out w1 n hw1; replace hb1 := hide hb1; clear C hw1 K) | (go_at_call 44; refine (P1.out _).mono ?_; rintro e w2 ⟨rfl, rfl⟩; clear P1) | (go_at_call 44; refine (P2.out _).mono ?_; rintro e w2 ⟨rfl, rfl⟩; clear P2))
      obtain ⟨-, k0, k1, hB2⟩ := put2 hb1.out hB1 (Nat.le_refl _) (.int .i64 a) (.int .i64 b)
      exact bodyPost_ret (v := .tuple #[.agg #[.int .i64 a, .int .i64 b], .bool true]) (by simp [results, Tryd.f38, go_sem, k0, k1]) rfl ⟨rfl, hB2⟩

end Go.Proofs.YtndhkbmgpjjepaaDoor
