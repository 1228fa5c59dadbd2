/- Memory that changes at some blocks alone; disks in memory; disk's small functions. Own work; no statement. -/
import Derived.Test.YtpkjkhpnhcbciaaRangeL
import Derived.StillTailTactics
set_option linter.unusedSimpArgs false
set_option linter.unusedVariables false
namespace Go.Proofs.Ytpkjkhpnhcbciaa
open Go.RowKit Go.Shelf

/-- From w to w' nothing has changed of what there was, but for the blocks of S. -/
structure Touch (S : Nat → Prop) (w w' : World) : Prop where
  os : w'.os = w.os
  tape : w'.tape = w.tape
  output : w'.output = w.output
  size : w.heap.size ≤ w'.heap.size
  block : ∀ k, k < w.heap.size → ¬ S k → w'.heap[k]? = w.heap[k]?

theorem Touch.refl (S : Nat → Prop) (w : World) : Touch S w w := ⟨rfl, rfl, rfl, Nat.le_refl _, fun _ _ _ => rfl⟩
theorem Touch.next {S S1 : Nat → Prop} {a b c : World} (h : Touch S a b) (k : Touch S1 b c) (hs : ∀ i, i < a.heap.size → S1 i → S i) : Touch S a c :=
  ⟨k.os.trans h.os, k.tape.trans h.tape, k.output.trans h.output, Nat.le_trans h.size k.size, fun i hi hS => (k.block i (Nat.lt_of_lt_of_le hi h.size) (fun e => hS (hs i hi e))).trans (h.block i hi hS)⟩
theorem Touch.trans {S : Nat → Prop} {a b c : World} (h : Touch S a b) (k : Touch S b c) : Touch S a c := h.next k fun _ _ e => e
theorem Touch.mono {S S' : Nat → Prop} {w w' : World} (h : Touch S w w') (hs : ∀ k, k < w.heap.size → S k → S' k) : Touch S' w w' :=
  ⟨h.os, h.tape, h.output, h.size, fun k hk hS => h.block k hk fun e => hS (hs k hk e)⟩
theorem touch_of_below {S : Nat → Prop} {B : Nat} {w w' : World} (h : Below B w w') (hS : ∀ k, k < w.heap.size → B ≤ k → S k) : Touch S w w' :=
  ⟨h.os, h.tape, h.output, h.size, fun k hk hn => h.block k (Nat.lt_of_not_le fun hb => hn (hS k hk hb))⟩
theorem touch_new {S : Nat → Prop} {w w' : World} (h : Below w.heap.size w w') : Touch S w w' := touch_of_below h fun k h1 h2 => absurd h1 (by omega)
theorem Touch.below {S : Nat → Prop} {w w' : World} {B : Nat} (h : Touch S w w') (hb : B ≤ w.heap.size) (hB : ∀ k, k < w.heap.size → S k → B ≤ k) : Below B w w' :=
  ⟨h.os, h.tape, h.output, h.size, fun k hk => h.block k (by omega) fun e => by have := hB k (by omega) e; omega⟩
theorem touch_set {S : Nat → Prop} (w : World) (a : Addr) (v : Value) (h : S a.block) : Touch S w (w.setCell a v) :=
  ⟨rfl, rfl, rfl, by simp [World.setCell], fun k _ hn => Below.heap_setCell _ _ _ _ (fun e => hn (e ▸ h))⟩
theorem Touch.set {S : Nat → Prop} {w w' : World} (t : Touch S w w') (a : Addr) (v : Value) (h : S a.block) : Touch S w (w'.setCell a v) := t.trans (touch_set w' a v h)
theorem Touch.alloc {S : Nat → Prop} {w w' : World} (t : Touch S w w') (o : Obj) : Touch S w (w'.alloc o) := t.trans (touch_new ((Below.refl _ w').alloc (Nat.le_refl _) o))
theorem Touch.drew {S : Nat → Prop} {w w' : World} (t : Touch S w w') : Touch S w w'.drew := ⟨t.os, t.tape, t.output, t.size, t.block⟩
theorem Touch.new {S : Nat → Prop} {w w' w2 : World} (t : Touch S w w') (h : Below w'.heap.size w' w2) : Touch S w w2 := t.trans (touch_new h)
/-- What is new since w may be changed at will. -/
theorem Touch.upper {S S1 : Nat → Prop} {a b c : World} (h : Touch S a b) (k : Touch S1 b c) (hs : ∀ i, S1 i → a.heap.size ≤ i) : Touch S a c := h.next k fun i hi e => absurd (hs i e) (by omega)

theorem ownFrom_touch {β : Type} {S : Nat → Prop} {w : World} {B : Nat} (hB : w.heap.size ≤ B) : OwnFrom B (fun (_ : β) W => Touch S w W) := fun _ W W' row h hg hr =>
  h.next (S1 := fun k => row = some k) ⟨hg.os, hg.tape, hg.output, hg.size, fun k hk hn => hg.block k hk fun e => hn e.symm⟩ fun i hi e => absurd ((hr i e).1) (by omega)

theorem Touch.of_touch {S : Nat → Prop} {a b c : World} (k : Touch S b c) (h : Below a.heap.size a b) : Touch S a c := (touch_new h).trans k
theorem drewsB (w : World) (n : Nat) : Below w.heap.size w (w.drewN n) := ⟨rfl, rfl, rfl, Nat.le_refl _, fun _ _ => rfl⟩
theorem Touch.drewN {S : Nat → Prop} {w w' : World} (t : Touch S w w') (n : Nat) : Touch S w (w'.drewN n) := t.new (drewsB w' n)

theorem cellsAt {W : World} {b : Nat} {c : Array Value} {t : TypeId} {f : Nat × Nat} (h : W.heap[b]? = some (.cells c t f)) (j : Nat) : W.cell? ⟨b, j, none⟩ = c[j]? := by
  simp [World.cell?, h]
theorem frozenAt {W : World} {b : Nat} {c : Array Value} {t : TypeId} (h : W.heap[b]? = some (.cells c t (0, 0))) (j : Nat) : W.frozen? ⟨b, j, none⟩ = false := by
  simp [World.frozen?, h]
theorem setAt {W : World} {b j : Nat} {c : Array Value} {t : TypeId} {f : Nat × Nat} (h : W.heap[b]? = some (.cells c t f)) (v : Value) : (W.setCell ⟨b, j, none⟩ v).heap[b]? = some (.cells (c.setIfInBounds j v) t f) := by
  simp [World.setCell, Array.getElem?_modify, h]
theorem ltAt {W : World} {b : Nat} {o : Obj} (h : W.heap[b]? = some o) : b < W.heap.size := (Array.getElem?_eq_some_iff.1 h).1

/-- A row is no block of another type. -/
theorem row_not {W : World} {B e : Nat} {v : Value} {n s b : Nat} {xs : List Value} {c : Array Value} {t : TypeId} {f : Nat × Nat} (h : W.ownsRow B e s v n xs) (hb : W.heap[b]? = some (.cells c t f)) (ht : t ≠ e) : some b ≠ v.ownBlock := fun he => by
  rcases h.2 with ⟨rfl, _⟩ | ⟨g', cap', cur, rfl, _, hg', _⟩
  · cases he
  · obtain rfl : b = g' := by simpa [Value.ownBlock] using he
    rw [hb] at hg'
    simp only [Option.some.injEq, Obj.cells.injEq] at hg'
    exact ht hg'.2.1

theorem frozen_alloc {w : World} {a : Addr} {v : Value} {o : Obj} (h : w.cell? a = some v) : (w.alloc o).frozen? a = w.frozen? a :=
  ((Below.refl _ w).alloc (Nat.le_refl _) o).frozen (p := a) (World.block_lt_of_cell? w _ h)

/-- A call of a Go function by its contract, as a step of a region that draws. -/
theorem stepCall {P : Program} {ops : Array Oper} {o : Oper} {a : Act} {w : World} {K : Act → World → Prop} {Q : Exit → Act → World → Prop} {E : Prop} (hg : o.guard = none) (f : FuncId) (args : Array Value) {R : Ending → World → Prop} (hrun : (execOp a.eval o).run P w = .ok (.enter f args) w) (hc : Calls P f args w R)
    (hR : ∀ e w', R e w' → ∃ v, e = .returned v ∧ K (a.put o.dst v) w') : if Region.wanted o (yielded ops a.tmps) = true then Oper.wp P o a w K Q else E := by
  rw [if_pos (by simp [Region.wanted, hg])]
  unfold Oper.wp
  rw [hrun]
  simp only [Oper.upon]
  refine hc.mono fun e w' h => ?_
  obtain ⟨v, rfl, hk⟩ := hR e w' h
  exact hk

/-- A region whose head only reads, and whose tail comes in one order. -/
theorem stillTail {P : Program} {id : Nat} {Q : Exit → Act → World → Prop} {a : Act} {w : World} {l : List Oper} (n : Nat) (hm : P.follows .mixedOrders = true) (hB : Region.lexTailB .any l.toArray n = true)
    (h : wpStill P l.toArray w.drew (fun a' => wpList P l.toArray Q (l.drop n) a' w.drew) (l.take n) a) : (Code.region id l.toArray true).wp P Q a w := wp_region_still_tail n hm hB h

/-- What a disk has. -/
structure DiskD where
  room : Int
  lines : List ByteArray
  lasts : Nat

/-- The bytes of lines, with their ends. -/
def bytesOf (l : List ByteArray) : Nat := (l.map (fun s => s.size + 1)).sum

theorem bytesOf_append (a b : List ByteArray) : bytesOf (a ++ b) = bytesOf a + bytesOf b := by simp [bytesOf]
theorem bytesOf_length (l : List ByteArray) : l.length ≤ bytesOf l := by
  induction l with
  | nil => simp [bytesOf]
  | cons x r ih => simp [bytesOf] at *; omega
theorem bytesOf_take (l : List ByteArray) (k : Nat) : bytesOf (l.take k) + bytesOf (l.drop k) = bytesOf l := by
  rw [← bytesOf_append, List.take_append_drop]
theorem bytesOf_mem {l : List ByteArray} {s : ByteArray} (h : s ∈ l) : s.size + 1 ≤ bytesOf l := by
  induction l with
  | nil => cases h
  | cons x r ih =>
    simp [bytesOf] at *
    rcases h with rfl | h
    · omega
    · have := ih h; omega

structure DiskD.ok (D : DiskD) : Prop where
  low : 1 ≤ D.room
  high : D.room ≤ 1048576
  fits : (bytesOf D.lines : Int) ≤ D.room
  lasts : D.lasts ≤ D.lines.length

/-- The blocks of a disk. -/
def onDisk (p : Nat) (g : Option Nat) (k : Nat) : Prop := k = p ∨ g = some k

/-- A row of texts, cell by cell. -/
theorem strs_cell {w : World} {B : Nat} {e : TypeId} {a : Option Addr} {cap : Nat} {l : List ByteArray} (h : w.ownsRow B e 1 (.slice a l.length cap) l.length (l.map Value.string)) (t : Nat) (ht : t < l.length) :
    ∃ b, a = some ⟨b, 0, none⟩ ∧ w.cell? ⟨b, t, none⟩ = some (.string l[t]) := by
  rcases h.2 with ⟨e', h0⟩ | ⟨g, cap', cur, e', _⟩
  · omega
  · simp only [Value.slice.injEq] at e'
    obtain ⟨rfl, -, rfl⟩ := e'
    refine ⟨g, rfl, ?_⟩
    rw [h.cellAt t (by omega)]
    simp [ht]

end Go.Proofs.Ytpkjkhpnhcbciaa
