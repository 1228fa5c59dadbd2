/- Own work: the parts D1, F1, R3, R4, R5, R6, F2, F3, F4, F5 of the proof, laid together. -/
import Derived.Test.YtompaldhnbcikaaPartFilterPlays2
import Derived.StillTailTactics
import Derived.Maps.Keyed
import Derived.Carry
import Derived.Laws.Concat
import Derived.Lib.QuietBelow
import Derived.Laws.AppendOwn
import Derived.Shelf.SlMaps.Clone
import Derived.Deep.RegionHeld3
/- Memory that changes at some blocks alone; disks in memory; disk's small functions. Own work; no statement. -/
set_option linter.unusedSimpArgs false
set_option linter.unusedVariables false
namespace Go.Proofs.Ytompaldhnbcikaa
open Go.RowKit Go.Shelf

/-- From w to w' nothing has changed of what there was, but for the blocks of S. -/
structure Touch (S : Nat → Prop) (w w' : World) : Prop where
  os : w'.os = w.os
  tape : w'.tape = w.tape
  output : w'.output = w.output
  size : w.heap.size ≤ w'.heap.size
  block : ∀ k, k < w.heap.size → ¬ S k → w'.heap[k]? = w.heap[k]?

theorem Touch.refl (S : Nat → Prop) (w : World) : Touch S w w := ⟨rfl, rfl, rfl, Nat.le_refl _, fun _ _ _ => rfl⟩
theorem Touch.next {S S1 : Nat → Prop} {a b c : World} (h : Touch S a b) (k : Touch S1 b c) (hs : ∀ i, i < a.heap.size → S1 i → S i) : Touch S a c :=
  ⟨k.os.trans h.os, k.tape.trans h.tape, k.output.trans h.output, Nat.le_trans h.size k.size, fun i hi hS => (k.block i (Nat.lt_of_lt_of_le hi h.size) (fun e => hS (hs i hi e))).trans (h.block i hi hS)⟩
theorem Touch.trans {S : Nat → Prop} {a b c : World} (h : Touch S a b) (k : Touch S b c) : Touch S a c := h.next k fun _ _ e => e
theorem Touch.mono {S S' : Nat → Prop} {w w' : World} (h : Touch S w w') (hs : ∀ k, k < w.heap.size → S k → S' k) : Touch S' w w' :=
  ⟨h.os, h.tape, h.output, h.size, fun k hk hS => h.block k hk fun e => hS (hs k hk e)⟩
theorem touch_of_below {S : Nat → Prop} {B : Nat} {w w' : World} (h : Below B w w') (hS : ∀ k, k < w.heap.size → B ≤ k → S k) : Touch S w w' :=
  ⟨h.os, h.tape, h.output, h.size, fun k hk hn => h.block k (Nat.lt_of_not_le fun hb => hn (hS k hk hb))⟩
theorem touch_new {S : Nat → Prop} {w w' : World} (h : Below w.heap.size w w') : Touch S w w' := touch_of_below h fun k h1 h2 => absurd h1 (by omega)
theorem Touch.below {S : Nat → Prop} {w w' : World} {B : Nat} (h : Touch S w w') (hb : B ≤ w.heap.size) (hB : ∀ k, k < w.heap.size → S k → B ≤ k) : Below B w w' :=
  ⟨h.os, h.tape, h.output, h.size, fun k hk => h.block k (by omega) fun e => by have := hB k (by omega) e; omega⟩
theorem touch_set {S : Nat → Prop} (w : World) (a : Addr) (v : Value) (h : S a.block) : Touch S w (w.setCell a v) :=
  ⟨rfl, rfl, rfl, by simp [World.setCell], fun k _ hn => Below.heap_setCell _ _ _ _ (fun e => hn (e ▸ h))⟩
theorem Touch.set {S : Nat → Prop} {w w' : World} (t : Touch S w w') (a : Addr) (v : Value) (h : S a.block) : Touch S w (w'.setCell a v) := t.trans (touch_set w' a v h)
theorem Touch.alloc {S : Nat → Prop} {w w' : World} (t : Touch S w w') (o : Obj) : Touch S w (w'.alloc o) := t.trans (touch_new ((Below.refl _ w').alloc (Nat.le_refl _) o))
theorem Touch.drew {S : Nat → Prop} {w w' : World} (t : Touch S w w') : Touch S w w'.drew := ⟨t.os, t.tape, t.output, t.size, t.block⟩
theorem Touch.new {S : Nat → Prop} {w w' w2 : World} (t : Touch S w w') (h : Below w'.heap.size w' w2) : Touch S w w2 := t.trans (touch_new h)
/-- What is new since w may be changed at will. -/
theorem Touch.upper {S S1 : Nat → Prop} {a b c : World} (h : Touch S a b) (k : Touch S1 b c) (hs : ∀ i, S1 i → a.heap.size ≤ i) : Touch S a c := h.next k fun i hi e => absurd (hs i e) (by omega)

theorem ownFrom_touch {β : Type} {S : Nat → Prop} {w : World} {B : Nat} (hB : w.heap.size ≤ B) : OwnFrom B (fun (_ : β) W => Touch S w W) := fun _ W W' row h hg hr =>
  h.next (S1 := fun k => row = some k) ⟨hg.os, hg.tape, hg.output, hg.size, fun k hk hn => hg.block k hk fun e => hn e.symm⟩ fun i hi e => absurd ((hr i e).1) (by omega)

theorem Touch.of_touch {S : Nat → Prop} {a b c : World} (k : Touch S b c) (h : Below a.heap.size a b) : Touch S a c := (touch_new h).trans k
theorem drewsB (w : World) (n : Nat) : Below w.heap.size w (w.drewN n) := ⟨rfl, rfl, rfl, Nat.le_refl _, fun _ _ => rfl⟩
theorem Touch.drewN {S : Nat → Prop} {w w' : World} (t : Touch S w w') (n : Nat) : Touch S w (w'.drewN n) := t.new (drewsB w' n)

theorem cellsAt {W : World} {b : Nat} {c : Array Value} {t : TypeId} {f : Nat × Nat} (h : W.heap[b]? = some (.cells c t f)) (j : Nat) : W.cell? ⟨b, j, none⟩ = c[j]? := by
  simp [World.cell?, h]
theorem frozenAt {W : World} {b : Nat} {c : Array Value} {t : TypeId} (h : W.heap[b]? = some (.cells c t (0, 0))) (j : Nat) : W.frozen? ⟨b, j, none⟩ = false := by
  simp [World.frozen?, h]
theorem setAt {W : World} {b j : Nat} {c : Array Value} {t : TypeId} {f : Nat × Nat} (h : W.heap[b]? = some (.cells c t f)) (v : Value) : (W.setCell ⟨b, j, none⟩ v).heap[b]? = some (.cells (c.setIfInBounds j v) t f) := by
  simp [World.setCell, Array.getElem?_modify, h]
theorem ltAt {W : World} {b : Nat} {o : Obj} (h : W.heap[b]? = some o) : b < W.heap.size := (Array.getElem?_eq_some_iff.1 h).1

/-- A row is no block of another type. -/
theorem row_not {W : World} {B e : Nat} {v : Value} {n s b : Nat} {xs : List Value} {c : Array Value} {t : TypeId} {f : Nat × Nat} (h : W.ownsRow B e s v n xs) (hb : W.heap[b]? = some (.cells c t f)) (ht : t ≠ e) : some b ≠ v.ownBlock := fun he => by
  rcases h.2 with ⟨rfl, _⟩ | ⟨g', cap', cur, rfl, _, hg', _⟩
  · cases he
  · obtain rfl : b = g' := by simpa [Value.ownBlock] using he
    rw [hb] at hg'
    simp only [Option.some.injEq, Obj.cells.injEq] at hg'
    exact ht hg'.2.1

theorem frozen_alloc {w : World} {a : Addr} {v : Value} {o : Obj} (h : w.cell? a = some v) : (w.alloc o).frozen? a = w.frozen? a :=
  ((Below.refl _ w).alloc (Nat.le_refl _) o).frozen (p := a) (World.block_lt_of_cell? w _ h)

/-- A call of a Go function by its contract, as a step of a region that draws. -/
theorem stepCall {P : Program} {ops : Array Oper} {o : Oper} {a : Act} {w : World} {K : Act → World → Prop} {Q : Exit → Act → World → Prop} {E : Prop} (hg : o.guard = none) (f : FuncId) (args : Array Value) {R : Ending → World → Prop} (hrun : (execOp a.eval o).run P w = .ok (.enter f args) w) (hc : Calls P f args w R)
    (hR : ∀ e w', R e w' → ∃ v, e = .returned v ∧ K (a.put o.dst v) w') : if Region.wanted o (yielded ops a.tmps) = true then Oper.wp P o a w K Q else E := by
  rw [if_pos (by simp [Region.wanted, hg])]
  unfold Oper.wp
  rw [hrun]
  simp only [Oper.upon]
  refine hc.mono fun e w' h => ?_
  obtain ⟨v, rfl, hk⟩ := hR e w' h
  exact hk

/-- A region whose head only reads, and whose tail comes in one order. -/
theorem stillTail {P : Program} {id : Nat} {Q : Exit → Act → World → Prop} {a : Act} {w : World} {l : List Oper} (n : Nat) (hm : P.follows .mixedOrders = true) (hB : Region.lexTailB .any l.toArray n = true)
    (h : wpStill P l.toArray w.drew (fun a' => wpList P l.toArray Q (l.drop n) a' w.drew) (l.take n) a) : (Code.region id l.toArray true).wp P Q a w := wp_region_still_tail n hm hB h

/-- What a disk has. -/
structure DiskD where
  room : Int
  lines : List ByteArray
  lasts : Nat

/-- The bytes of lines, with their ends. -/
def bytesOf (l : List ByteArray) : Nat := (l.map (fun s => s.size + 1)).sum

theorem bytesOf_append (a b : List ByteArray) : bytesOf (a ++ b) = bytesOf a + bytesOf b := by simp [bytesOf]
theorem bytesOf_length (l : List ByteArray) : l.length ≤ bytesOf l := by
  induction l with
  | nil => simp [bytesOf]
  | cons x r ih => simp [bytesOf] at *; omega
theorem bytesOf_take (l : List ByteArray) (k : Nat) : bytesOf (l.take k) + bytesOf (l.drop k) = bytesOf l := by
  rw [← bytesOf_append, List.take_append_drop]
theorem bytesOf_mem {l : List ByteArray} {s : ByteArray} (h : s ∈ l) : s.size + 1 ≤ bytesOf l := by
  induction l with
  | nil => cases h
  | cons x r ih =>
    simp [bytesOf] at *
    rcases h with rfl | h
    · omega
    · have := ih h; omega

structure DiskD.ok (D : DiskD) : Prop where
  low : 1 ≤ D.room
  high : D.room ≤ 1048576
  fits : (bytesOf D.lines : Int) ≤ D.room
  lasts : D.lasts ≤ D.lines.length

/-- The blocks of a disk. -/
def onDisk (p : Nat) (g : Option Nat) (k : Nat) : Prop := k = p ∨ g = some k

/-- A row of texts, cell by cell. -/
theorem strs_cell {w : World} {B : Nat} {e : TypeId} {a : Option Addr} {cap : Nat} {l : List ByteArray} (h : w.ownsRow B e 1 (.slice a l.length cap) l.length (l.map Value.string)) (t : Nat) (ht : t < l.length) :
    ∃ b, a = some ⟨b, 0, none⟩ ∧ w.cell? ⟨b, t, none⟩ = some (.string l[t]) := by
  rcases h.2 with ⟨e', h0⟩ | ⟨g, cap', cur, e', _⟩
  · omega
  · simp only [Value.slice.injEq] at e'
    obtain ⟨rfl, -, rfl⟩ := e'
    refine ⟨g, rfl, ?_⟩
    rw [h.cellAt t (by omega)]
    simp [ht]

end Go.Proofs.Ytompaldhnbcikaa

/- Maps in memory whose keys are integers: looked up, written, deleted from, cleared. Own work; no statement. -/
set_option linter.unusedSimpArgs false
set_option linter.unusedVariables false
namespace Go.Proofs.Ytompaldhnbcikaa
open Go.RowKit Go.Shelf

/-- At block b there lies a map: these keys, with these values, in this order. -/
def MapAt (w : World) (b : Nat) (L : List (Int × Value)) : Prop :=
  ∃ (es : Array MapEntry) (clock : Nat), w.heap[b]? = some (.map es clock) ∧ es.toList.map (fun e => (e.key, e.val)) = L.map fun x => (Value.int .i64 x.1, x.2)

theorem MapAt.keep {w w' : World} {b : Nat} {L : List (Int × Value)} (h : MapAt w b L) (hk : w'.heap[b]? = w.heap[b]?) : MapAt w' b L := by
  obtain ⟨es, clock, h1, h2⟩ := h
  exact ⟨es, clock, hk.trans h1, h2⟩
theorem MapAt.lt {w : World} {b : Nat} {L : List (Int × Value)} (h : MapAt w b L) : b < w.heap.size := by
  obtain ⟨es, clock, h1, h2⟩ := h
  exact (Array.getElem?_eq_some_iff.1 h1).1
/-- A map's block is no block of cells. -/
theorem MapAt.not_cells {w : World} {b : Nat} {L : List (Int × Value)} (h : MapAt w b L) {c : Array Value} {t : TypeId} {f : Nat × Nat} : w.heap[b]? ≠ some (.cells c t f) := fun e => by
  obtain ⟨es, clock, h1, h2⟩ := h
  rw [h1] at e
  cases e

theorem eraseIdx_filter {α : Type} (f : α → Int) : ∀ (L : List α) (j : Nat) (x : α), L[j]? = some x → L.Pairwise (fun a b => f a ≠ f b) → L.eraseIdx j = L.filter fun y => decide (f y ≠ f x)
  | [], j, x, h, _ => by simp at h
  | a :: L, 0, x, h, hp => by
    simp only [List.getElem?_cons_zero, Option.some.injEq] at h
    subst h
    rw [List.pairwise_cons] at hp
    rw [List.eraseIdx_cons_zero, List.filter_cons_of_neg (by simp)]
    refine (List.filter_eq_self.2 fun y hy => ?_).symm
    simpa using fun e => hp.1 y hy e.symm
  | a :: L, j + 1, x, h, hp => by
    rw [List.getElem?_cons_succ] at h
    rw [List.pairwise_cons] at hp
    have hne : f a ≠ f x := hp.1 x (List.mem_of_getElem? h)
    rw [List.eraseIdx_cons_succ, List.filter_cons_of_pos (by simpa using hne), eraseIdx_filter f L j x h hp.2]

section
variable {P : Program} {w : World} {t k e : TypeId} {b : Nat} {L : List (Int × Value)}

theorem keys_of {es : Array MapEntry} (h : es.toList.map (fun e => (e.key, e.val)) = L.map fun x => (Value.int .i64 x.1, x.2)) : ∀ x ∈ es.toList, MapKept.IsKey (.int .i64) x.key := by
  intro x hx
  have : (x.key, x.val) ∈ L.map fun x => (Value.int .i64 x.1, x.2) := by rw [← h]; exact List.mem_map.2 ⟨x, hx, rfl⟩
  obtain ⟨y, -, hy⟩ := List.mem_map.1 this
  simp only [Prod.mk.injEq] at hy
  rw [← hy.1]
  rfl

/-- What is found: the one with that key, or none has it. -/
theorem MapAt.find (n : Int) (hb : MapAt w b L) : ∃ es clock, w.heap[b]? = some (.map es clock) ∧ es.toList.map (fun e => (e.key, e.val)) = (L.map fun x => (Value.int .i64 x.1, x.2)) ∧
    ((Instr.findNow (.int .i64) (.int .i64 n) es.toList 0 = some none ∧ ∀ x ∈ L, x.1 ≠ n) ∨
     ∃ (j : Nat) (v : Value), Instr.findNow (.int .i64) (.int .i64 n) es.toList 0 = some (some (j, v)) ∧ L[j]? = some (n, v)) := by
  obtain ⟨es, clock, h1, h2⟩ := hb
  refine ⟨es, clock, h1, h2, ?_⟩
  rcases MapKept.findNow_spec (d := .int .i64) (k := .int .i64 n) rfl es.toList 0 (keys_of h2) with ⟨h3, h4⟩ | ⟨j, e, h3, h4, h5⟩
  · refine .inl ⟨h3, fun x hx e => ?_⟩
    have : (Value.int .i64 x.1, x.2) ∈ es.toList.map fun e => (e.key, e.val) := by rw [h2]; exact List.mem_map.2 ⟨x, hx, rfl⟩
    obtain ⟨y, hy, hyx⟩ := List.mem_map.1 this
    simp only [Prod.mk.injEq] at hyx
    exact h4 y hy (hyx.1.trans (by rw [e]))
  · refine .inr ⟨j, e.val, by simpa using h3, ?_⟩
    have : (es.toList.map fun e => (e.key, e.val))[j]? = some (Value.int .i64 n, e.val) := by rw [List.getElem?_map, h4]; simp [h5]
    rw [h2, List.getElem?_map] at this
    cases hx : L[j]? with
    | none => rw [hx] at this; cases this
    | some x =>
      rw [hx] at this
      simp only [Option.map_some, Option.some.injEq, Prod.mk.injEq, Value.int.injEq, true_and] at this
      rw [← this.1, ← this.2]

theorem map_look (ht : P.underlying t = some (.map k e)) (hk : P.underlying k = some (.int .i64)) {z : Value} (hz : ∀ w, (zeroValue e).run P w = .ok z w) (n : Int) (hb : MapAt w b L) :
    (∃ v, (n, v) ∈ L ∧ (Instr.lookup t (.map (some b)) (.int .i64 n) true).run P w = .ok (.tuple #[v, .bool true]) w) ∨
    ((∀ x ∈ L, x.1 ≠ n) ∧ (Instr.lookup t (.map (some b)) (.int .i64 n) true).run P w = .ok (.tuple #[z, .bool false]) w) := by
  obtain ⟨es, clock, h1, h2, ⟨h3, h4⟩ | ⟨j, v, h3, h4⟩⟩ := hb.find n
  · exact .inr ⟨h4, by simp [Instr.lookup, run_underlying ht, MapKept.run_getObj_map h1, MapKept.run_checkKey hk (k := .int .i64 n) rfl, MapKept.run_findKey hk h3, hz, Result.andThen]⟩
  · exact .inl ⟨v, List.mem_of_getElem? h4, by simp [Instr.lookup, run_underlying ht, MapKept.run_getObj_map h1, MapKept.run_checkKey hk (k := .int .i64 n) rfl, MapKept.run_findKey hk h3, Result.andThen]⟩

/-- The same in each world where the map's block lies as it lies. -/
theorem map_look2 (ht : P.underlying t = some (.map k e)) (hk : P.underlying k = some (.int .i64)) {z : Value} (hz : ∀ w, (zeroValue e).run P w = .ok z w) (n : Int) (hb : MapAt w b L) :
    (∃ v, (n, v) ∈ L ∧ ∀ w', w'.heap[b]? = w.heap[b]? → (Instr.lookup t (.map (some b)) (.int .i64 n) true).run P w' = .ok (.tuple #[v, .bool true]) w') ∨
    ((∀ x ∈ L, x.1 ≠ n) ∧ ∀ w', w'.heap[b]? = w.heap[b]? → (Instr.lookup t (.map (some b)) (.int .i64 n) true).run P w' = .ok (.tuple #[z, .bool false]) w') := by
  obtain ⟨es, clock, h1, h2, ⟨h3, h4⟩ | ⟨j, v, h3, h4⟩⟩ := hb.find n
  · exact .inr ⟨h4, fun w' hw => by rw [h1] at hw; simp [Instr.lookup, run_underlying ht, MapKept.run_getObj_map hw, MapKept.run_checkKey hk (k := .int .i64 n) rfl, MapKept.run_findKey hk h3, hz, Result.andThen]⟩
  · exact .inl ⟨v, List.mem_of_getElem? h4, fun w' hw => by rw [h1] at hw; simp [Instr.lookup, run_underlying ht, MapKept.run_getObj_map hw, MapKept.run_checkKey hk (k := .int .i64 n) rfl, MapKept.run_findKey hk h3, Result.andThen]⟩

/-- Only the map's block has turned. -/
theorem put_touch (w : World) (b : Nat) (o : Obj) : Touch (fun x => x = b) w (w.putObj b o) :=
  ⟨rfl, rfl, rfl, by simp [World.putObj], fun k _ h => World.putObj_heap_other h⟩

theorem map_update (ht : P.underlying t = some (.map k e)) (hk : P.underlying k = some (.int .i64)) (n : Int) (v : Value) (hb : MapAt w b L) (hn : ∀ x ∈ L, x.1 ≠ n) :
    ∃ w', (Instr.mapUpdate t (.map (some b)) (.int .i64 n) v).run P w = .ok () w' ∧ MapAt w' b (L ++ [(n, v)]) ∧ Touch (fun x => x = b) w w' := by
  obtain ⟨es, clock, h1, h2, ⟨h3, h4⟩ | ⟨j, v, h3, h4⟩⟩ := hb.find n
  · refine ⟨w.putObj b (.map (es.push ⟨.int .i64 n, v, clock⟩) (clock + 1)), ?_, ⟨_, _, World.putObj_heap_same hb.lt, ?_⟩, put_touch w b _⟩
    · simp [Instr.mapUpdate, run_underlying ht, MapKept.run_getObj_map h1, MapKept.run_checkKey hk (k := .int .i64 n) rfl, MapKept.run_findKey hk h3, MapKept.run_setObj_map _ h1, Result.andThen, World.putObj]
    · simp [h2]
  · exact absurd rfl (hn _ (List.mem_of_getElem? h4))

theorem map_delete (ht : P.underlying t = some (.map k e)) (hk : P.underlying k = some (.int .i64)) (n : Int) (ty : TypeId) (hb : MapAt w b L) (hp : L.Pairwise fun x y => x.1 ≠ y.1) :
    ∃ w', (Builtin.delete_ #[t, k] ty #[.map (some b), .int .i64 n]).run P w = .ok (.tuple #[]) w' ∧ MapAt w' b (L.filter fun x => decide (x.1 ≠ n)) ∧ Touch (fun x => x = b) w w' := by
  obtain ⟨es, clock, h1, h2, ⟨h3, h4⟩ | ⟨j, v, h3, h4⟩⟩ := hb.find n
  · refine ⟨w.putObj b (.map es clock), ?_, ⟨_, _, World.putObj_heap_same hb.lt, ?_⟩, put_touch w b _⟩
    · simp [Builtin.delete_, run_underlying ht, MapKept.run_getObj_map h1, MapKept.run_checkKey hk (k := .int .i64 n) rfl, MapKept.run_findKey hk h3, MapKept.run_setObj_map _ h1, Result.andThen, World.putObj]
    · rw [h2, List.filter_eq_self.2 fun x hx => by simpa using h4 x hx]
  · have hj : j < es.toList.length := by
      have := congrArg List.length h2
      simp only [List.length_map] at this
      rw [this]
      exact (List.getElem?_eq_some_iff.1 h4).1
    have hsub : (es.eraseIdxIfInBounds j).toList = es.toList.eraseIdx j := by
      unfold Array.eraseIdxIfInBounds
      rw [dif_pos (by simpa using hj)]
      simp
    refine ⟨w.putObj b (.map (es.eraseIdxIfInBounds j) clock), ?_, ⟨_, _, World.putObj_heap_same hb.lt, ?_⟩, put_touch w b _⟩
    · simp [Builtin.delete_, run_underlying ht, MapKept.run_getObj_map h1, MapKept.run_checkKey hk (k := .int .i64 n) rfl, MapKept.run_findKey hk h3, MapKept.run_setObj_map _ h1, Result.andThen, World.putObj]
    · rw [hsub, ChangeMaps.map_eraseIdx, h2, ← ChangeMaps.map_eraseIdx, eraseIdx_filter (fun x : Int × Value => x.1) L j (n, v) h4 hp]

theorem map_clear (ht : P.underlying t = some (.map k e)) (ty : TypeId) (hb : MapAt w b L) :
    ∃ w', (Builtin.clear_ #[t] ty #[.map (some b)]).run P w = .ok (.tuple #[]) w' ∧ MapAt w' b [] ∧ Touch (fun x => x = b) w w' := by
  obtain ⟨es, clock, h1, h2⟩ := hb
  refine ⟨w.putObj b (.map #[] clock), ?_, ⟨_, _, World.putObj_heap_same (Array.getElem?_eq_some_iff.1 h1).1, rfl⟩, put_touch w b _⟩
  simp [Builtin.clear_, run_underlying ht, MapKept.run_getObj_map h1, MapKept.run_setObj_map _ h1, Result.andThen, World.putObj]

theorem map_len (ht : P.underlying t = some (.map k e)) (ty : TypeId) (hb : MapAt w b L) : (Builtin.len_ #[t] ty #[.map (some b)]).run P w = .ok (.int .i64 (L.length : Int)) w := by
  obtain ⟨es, clock, h1, h2⟩ := hb
  have e1 : (es.size : Int) = (L.length : Int) := by
    have := congrArg List.length h2
    simp at this
    omega
  simp [Builtin.len_, run_underlying ht, MapKept.run_getObj_map h1, goInt, Result.andThen, e1]
end

end Go.Proofs.Ytompaldhnbcikaa

/- rec's Before and Same. Own work; no statement. -/
set_option linter.unusedSimpArgs false
set_option linter.unusedVariables false
namespace Go.Proofs.Ytompaldhnbcikaa
open Go.RowKit

/-- A region whose head only reads, and whose tail comes in one order. -/
theorem region_tail {P : Program} {id : Nat} {Q : Exit → Act → World → Prop} {a : Act} {w : World} {l : List Oper} (n : Nat) (hm : P.follows .mixedOrders = true) (hB : Region.lexTailB .any l.toArray n = true)
    (h : wpStill P l.toArray w.drew (fun a' => wpList P l.toArray Q (l.drop n) a' w.drew) (l.take n) a) : (Code.region id l.toArray true).wp P Q a w := wp_region_still_tail n hm hB h

theorem str_ne {a b : ByteArray} (h : ¬ a = b) : (a.toList == b.toList) = false := by
  rw [beq_eq_false_iff_ne, Lib.toList_data, Lib.toList_data]
  intro e
  exact h (ByteArray.ext (Array.toList_inj.1 e))

def sameR (a b : RecD) : Bool := decide (a.site = b.site) && (decide (a.seq = b.seq) && (decide (a.key = b.key) && (decide (a.val = b.val) && everyB eqB a.dep b.dep)))

def beforeR (a b : RecD) : Bool := decide (a.site < b.site ∨ a.site = b.site ∧ a.seq < b.seq)


end Go.Proofs.Ytompaldhnbcikaa

/- A region whose operations read, and whose callees make memory of their own: one walk of the text's order serves every order. rec's Text. Own work; no statement. -/
set_option linter.unusedSimpArgs false
set_option linter.unusedVariables false
namespace Go.Proofs.Ytompaldhnbcikaa
open Go.RowKit Go.Sort

theorem app_bytes (a b : List UInt8) : (⟨a.toArray⟩ : ByteArray) ++ ⟨b.toArray⟩ = ⟨(a ++ b).toArray⟩ := by
  apply ByteArray.ext
  simp [ByteArray.data_append]

theorem textL_length {l : List Int} (h : InR l) : (textL l).length ≤ 22 * l.length + 2 := by
  have h1 := numsTo_length h (writtenL l)
  have h2 := writtenL_le l
  unfold textL
  simp
  omega

/-- A record in words. -/
def textR (r : RecD) : ByteArray := (⟨(Lib.itoa r.site).toArray⟩ : ByteArray) ++ ⟨#[58]⟩ ++ ⟨(Lib.itoa r.seq).toArray⟩ ++ ⟨#[32]⟩ ++ ⟨(textL r.dep).toArray⟩ ++ ⟨#[32]⟩ ++ r.key ++ ⟨#[61]⟩ ++ r.val

end Go.Proofs.Ytompaldhnbcikaa

/- strings.Cut at one byte, strings.Clone; rec's split. Own work; no statement. -/
set_option linter.unusedSimpArgs false
set_option linter.unusedVariables false
namespace Go.Proofs.Ytompaldhnbcikaa
open Go.RowKit Go.Sort

theorem set1 {W : World} {b j : Nat} {c : Array Value} {t : TypeId} {f : Nat × Nat} (h : W.heap[b]? = some (.cells c t f)) (v : Value) : (W.setCell ⟨b, j, none⟩ v).heap[b]? = some (.cells (c.setIfInBounds j v) t f) := by
  simp [World.setCell, Array.getElem?_modify, h]
theorem cell_at {W : World} {b : Nat} {c : Array Value} {t : TypeId} {f : Nat × Nat} (h : W.heap[b]? = some (.cells c t f)) (j : Nat) : W.cell? ⟨b, j, none⟩ = c[j]? := by
  simp [World.cell?, h]
/-- A struct of five cells, stored whole. -/
def put5 (W : World) (b : Nat) (v0 v1 v2 v3 v4 : Value) : World := ((((W.setCell ⟨b, 0, none⟩ v0).setCell ⟨b, 1, none⟩ v1).setCell ⟨b, 2, none⟩ v2).setCell ⟨b, 3, none⟩ v3).setCell ⟨b, 4, none⟩ v4
theorem put5_heap {W : World} {b : Nat} {x0 x1 x2 x3 x4 : Value} {t : TypeId} {f : Nat × Nat} (h : W.heap[b]? = some (.cells #[x0, x1, x2, x3, x4] t f)) (v0 v1 v2 v3 v4 : Value) :
    (put5 W b v0 v1 v2 v3 v4).heap[b]? = some (.cells #[v0, v1, v2, v3, v4] t f) := by
  have := set1 (j := 4) (set1 (j := 3) (set1 (j := 2) (set1 (j := 1) (set1 (j := 0) h v0) v1) v2) v3) v4
  simpa [put5] using this
theorem put5_below {B b : Nat} {w W : World} (h : Below B w W) (hb : B ≤ b) (v0 v1 v2 v3 v4 : Value) : Below B w (put5 W b v0 v1 v2 v3 v4) :=
  ((((h.setCell (p := ⟨b, 0, none⟩) hb v0).setCell (p := ⟨b, 1, none⟩) hb v1).setCell (p := ⟨b, 2, none⟩) hb v2).setCell (p := ⟨b, 3, none⟩) hb v3).setCell (p := ⟨b, 4, none⟩) hb v4
theorem put5_other {b : Nat} {W : World} (k : Nat) (h : k ≠ b) (v0 v1 v2 v3 v4 : Value) : (put5 W b v0 v1 v2 v3 v4).heap[k]? = W.heap[k]? := by
  unfold put5
  rw [Below.heap_setCell _ ⟨b, 4, none⟩ _ k h, Below.heap_setCell _ ⟨b, 3, none⟩ _ k h, Below.heap_setCell _ ⟨b, 2, none⟩ _ k h, Below.heap_setCell _ ⟨b, 1, none⟩ _ k h, Below.heap_setCell _ ⟨b, 0, none⟩ _ k h]

/-- A text before and behind a byte's first place. -/
def cutL (l : List UInt8) (c : UInt8) : List UInt8 × List UInt8 × Bool :=
  if Lib.indexByte l c = -1 then (l, [], false) else (l.take (Lib.indexByte l c).toNat, l.drop ((Lib.indexByte l c).toNat + 1), true)

theorem indexByte_lt : ∀ (l : List UInt8) (c : UInt8), Lib.indexByte l c < l.length
  | [], _ => by simp [Lib.indexByte]
  | x :: r, c => by
    have := indexByte_lt r c
    simp only [Lib.indexByte, List.length_cons]
    split
    · omega
    · split <;> omega

theorem cutL_length (l : List UInt8) (c : UInt8) : (cutL l c).1.length ≤ l.length ∧ (cutL l c).2.1.length ≤ l.length := by
  unfold cutL
  split <;> simp <;> omega

set_option maxHeartbeats 400000 in
theorem clone_calls (s : ByteArray) (w : World) (hs : s.size ≤ 1099511627776) :
    Calls Try.prog 39 #[.string s] w fun e w' => e = .returned (.string s) ∧ Below w.heap.size w w' := by
  have Ci := hide (Try.stringslite_Clone s w (by omega))
  go_enter Try.func39, Try.ntmps39
  go_wp2_with (go_at_call 47; refine Ci.out.mono ?_; rintro e w' ⟨rfl, hB⟩)
  go_ret
  exact ⟨rfl, hB⟩

/-- The parts of a record's text, at the signs that end them. -/
structure Parts where
  site : List UInt8
  seq : List UInt8
  dep : List UInt8
  key : List UInt8
  val : List UInt8

def splitR (s : List UInt8) : Option Parts :=
  let c1 := cutL s 58
  let c2 := cutL c1.2.1 32
  let e := (Lib.indexByte c2.2.1 93 + 1).toNat
  let r := c2.2.1.drop e
  let c3 := cutL (Lib.trimPrefix r [32]) 61
  if c1.2.2 = true ∧ c2.2.2 = true ∧ e ≠ 0 ∧ Lib.hasPrefix r [32] = true ∧ c3.2.2 = true then some ⟨c1.1, c2.1, c2.2.1.take e, c3.1, c3.2.1⟩ else none

/-- What split hands back: the parts, or nothing at all. -/
def partsV : Option Parts → Value
  | some p => .agg #[.string ⟨p.site.toArray⟩, .string ⟨p.seq.toArray⟩, .string ⟨p.dep.toArray⟩, .string ⟨p.key.toArray⟩, .string ⟨p.val.toArray⟩]
  | none => .agg #[.string ⟨#[]⟩, .string ⟨#[]⟩, .string ⟨#[]⟩, .string ⟨#[]⟩, .string ⟨#[]⟩]

theorem below_drewN (w : World) (n : Nat) : Below w.heap.size w (w.drewN n) := below_draws n

end Go.Proofs.Ytompaldhnbcikaa

/- slices.Clone at vec.Vec; rec's copied. Own work; no statement. -/
set_option linter.unusedSimpArgs false
set_option linter.unusedVariables false
namespace Go.Proofs.Ytompaldhnbcikaa
open Go.RowKit Go.Sort

theorem row_of_nil (w : World) (B : Nat) (e : TypeId) : w.ownsRow B e 1 (.slice none 0 0) 0 [] := World.ownsRow_nil w B e 1

set_option maxHeartbeats 2000000 in
set_option maxRecDepth 100000 in
theorem cloneVec_calls (v : Value) (l : List Int) (w : World) (hv : IsNums .i64 w v l) (hl : l.length ≤ 17592186044416) :
    Calls Try.prog 33 #[v] w fun e w' => ∃ v', e = .returned v' ∧ w'.ownsRow w.heap.size 3 1 v' l.length (l.map (Value.int .i64)) ∧ Below w.heap.size w w' := by
  obtain ⟨i0, hi, hz0, hz1, hz2⟩ := info_parts Try.info3
  have q22 : ∀ (w : World) (a : Option Addr) (n c n' c' : Nat), (binOp .eql 33 (.slice a n c) (.slice none n' c')).run Try.prog w = .ok (.bool a.isNone) w := fun w a n c n' c' => Lib.run_eql_slice_nil w _ _ a n c n' c' Try.underlying33
  obtain ⟨a, cap, rfl, hcap, hcell⟩ := hv
  cases a with
  | none =>
    have hl0 : l = [] := by
      cases l with
      | nil => rfl
      | cons x xs => obtain ⟨b, o, e, -⟩ := hcell 0 (by simp); cases e
    subst hl0
    clear hcell hcap
    go_enter Try.func33, Try.ntmps33
    go_wp2
    go_ret
    exact ⟨_, rfl, World.ownsRow_nil _ _ _ _, Below.refl _ _⟩
  | some ad =>
    have hnews : ∀ j u, (l.map (Value.int .i64))[j]? = some u → (w.alloc (.cells #[] 3)).cell? (ad.add j) = some u := by
      intro j u hj
      have hjl : j < l.length := by have := (List.getElem?_eq_some_iff.1 hj).1; simpa using this
      obtain ⟨b, o, e, hc⟩ := hcell j hjl
      cases e
      rw [Addr.add_lit]
      refine Lib.cell?_alloc_some _ ?_
      rw [hc, ← hj]
      simp [hjl]
    have A := hide hnews
    clear hnews hcell
    go_enter Try.func33, Try.ntmps33
    go_wp2_with (at_builtin; refine wpList_append_own _ rfl _ _ 33 rfl w.heap.size 3 i0 (.int .i64 0) 1 8 Try.underlying33 hi hz0 hz1 hz2 rfl (by decide) _ _ _ rfl (World.ownsRow_made w #[] 0 (Nat.le_refl _) (Nat.zero_le _) rfl) ad l.length cap (l.map (Value.int .i64)) rfl ?qc1 A.out ?qc3 ?qc4 ?qc5 ?qc6 ?_)
    case qc1 => simp
    case qc3 => intro u hu; obtain ⟨x, _, rfl⟩ := List.mem_map.1 hu; rfl
    case qc4 => unfold maxLen; omega
    case qc5 => omega
    case qc6 => simp
    intro v' w1 hown hgrow hnil
    go_wp2
    go_ret
    refine ⟨v', rfl, by simpa using hown, ?_⟩
    exact ((Below.refl _ w).alloc (Nat.le_refl _) _).grown hgrow (by simp) (by intro k hk; simp [Value.ownBlock] at hk; omega)

theorem frozen_at {W : World} {b : Nat} {c : Array Value} {t : TypeId} (h : W.heap[b]? = some (.cells c t (0, 0))) (j : Nat) : W.frozen? ⟨b, j, none⟩ = false := by
  simp [World.frozen?, h]

theorem own_below {W W' : World} {B : Nat} {e : TypeId} {size : Nat} {v : Value} {n : Nat} {xs : List Value} (h : W.ownsRow B e size v n xs) (hB : Below W.heap.size W W') : W'.ownsRow B e size v n xs :=
  ownsRow_of_heap h fun k hk => hB.block k (h.lt k hk).2
theorem keepB {b : Nat} {o : Obj} {W W' : World} (h : W.heap[b]? = some o) (hB : Below W.heap.size W W') : W'.heap[b]? = some o := (hB.block b (Array.getElem?_eq_some_iff.1 h).1).trans h
theorem ltB {b : Nat} {o : Obj} {W : World} (h : W.heap[b]? = some o) : b < W.heap.size := (Array.getElem?_eq_some_iff.1 h).1

def zeroR : RecD := ⟨0, 0, [], ⟨#[]⟩, ⟨#[]⟩⟩

/-- A record by value, with its numbers in memory of its own from block B on. -/
def OwnRec (B : Nat) (w : World) (v : Value) (r : RecD) : Prop :=
  ∃ vd, v = .agg #[.int .i64 r.site, .int .i64 r.seq, vd, .string r.key, .string r.val] ∧ w.ownsRow B 3 1 vd r.dep.length (r.dep.map (Value.int .i64))

theorem OwnRec.isRec {B : Nat} {w : World} {v : Value} {r : RecD} (h : OwnRec B w v r) : IsRec w v r := by
  obtain ⟨vd, rfl, ho⟩ := h
  obtain ⟨a, cap, rfl⟩ := ownsRow_slice ho
  exact ⟨a, cap, rfl, IsNums.of_row ho⟩

end Go.Proofs.Ytompaldhnbcikaa

/- Filters, as plain data, and in memory. Own work; no statement. -/
set_option linter.unusedSimpArgs false
set_option linter.unusedVariables false
namespace Go.Proofs.Ytompaldhnbcikaa
open Go.RowKit Go.Shelf

/-- What a filter has: its records as they came. -/
structure FilD where
  site : Int
  room : Int
  next : Int
  L : List RecD

structure FilD.ok (F : FilD) : Prop where
  site0 : 0 ≤ F.site
  site1 : F.site ≤ 7
  room0 : 1 ≤ F.room
  room1 : F.room ≤ 64
  next0 : 1 ≤ F.next
  next1 : F.next ≤ 1048577
  each : ∀ r ∈ F.L, checkR r 8 = 0 ∧ r.site = F.site ∧ F.next ≤ r.seq ∧ r.seq < F.next + F.room
  apart : F.L.Pairwise fun a b => a.seq ≠ b.seq

/-- What checkR says of a record that may be. -/
theorem good_of {r : RecD} (h : checkR r 8 = 0) : 0 ≤ r.site ∧ r.site ≤ 7 ∧ 1 ≤ r.seq ∧ r.seq ≤ 1048576 ∧ r.dep.length ≤ 8 := by
  unfold checkR at h
  split at h
  · cases h
  · split at h
    · rename_i h1 h2
      refine ⟨by omega, by omega, by omega, by omega, ?_⟩
      unfold checkL at h2
      split at h2
      · cases h2
      · split at h2
        · cases h2
        · rename_i h3
          omega
    · rename_i h1 h2
      exact absurd h h2

/-- The two blocks of a filter. -/
def onFil (p b k : Nat) : Prop := k = p ∨ k = b

/-- At block p there lies a filter, what it holds at block b. -/
structure IsFil (w : World) (p b : Nat) (F : FilD) : Prop where
  ok : F.ok
  head : w.heap[p]? = some (.cells #[.int .i64 F.site, .int .i64 F.room, .int .i64 F.next, .map (some b)] 69 (0, 0))
  held : ∃ M : List (RecD × Value), M.map (·.1) = F.L ∧ MapAt w b (M.map fun x => (x.1.seq, x.2)) ∧ ∀ x ∈ M, OwnRec 0 w x.2 x.1

theorem OwnRec.keep {B : Nat} {w w' : World} {v : Value} {r : RecD} (h : OwnRec B w v r) (hk : ∀ (k : Nat) (c : Array Value), w.heap[k]? = some (.cells c 3 (0, 0)) → w'.heap[k]? = w.heap[k]?) : OwnRec B w' v r := by
  obtain ⟨vd, rfl, hr⟩ := h
  refine ⟨vd, rfl, ownsRow_of_heap hr fun k e => ?_⟩
  rcases hr.2 with ⟨rfl, _⟩ | ⟨g, cap, cur, rfl, _, hg, _⟩
  · cases e
  · obtain rfl : g = k := by simpa [Value.ownBlock] using e
    exact hk g _ hg
theorem OwnRec.low {B B' : Nat} {w : World} {v : Value} {r : RecD} (h : OwnRec B w v r) (hB : B' ≤ B) : OwnRec B' w v r := by
  obtain ⟨vd, rfl, hr⟩ := h
  exact ⟨vd, rfl, ownsRow_low hr hB⟩
theorem IsFil.lt {w : World} {p b : Nat} {F : FilD} (h : IsFil w p b F) : p < w.heap.size := ltAt h.head
theorem IsFil.ltb {w : World} {p b : Nat} {F : FilD} (h : IsFil w p b F) : b < w.heap.size := by
  obtain ⟨M, -, h2, -⟩ := h.held
  exact h2.lt
theorem IsFil.ne {w : World} {p b : Nat} {F : FilD} (h : IsFil w p b F) : p ≠ b := fun e => by
  obtain ⟨M, -, h2, -⟩ := h.held
  rw [← e] at h2
  exact h2.not_cells h.head
theorem IsFil.keep' {w w' : World} {p b : Nat} {F : FilD} (h : IsFil w p b F) (hp : w'.heap[p]? = w.heap[p]?) (hb : w'.heap[b]? = w.heap[b]?) (hk : ∀ (k : Nat) (c : Array Value), w.heap[k]? = some (.cells c 3 (0, 0)) → w'.heap[k]? = w.heap[k]?) : IsFil w' p b F := by
  obtain ⟨M, h1, h2, h3⟩ := h.held
  exact ⟨h.ok, hp.trans h.head, M, h1, h2.keep hb, fun x hx => (h3 x hx).keep hk⟩
theorem IsFil.keep {w w' : World} {p b : Nat} {F : FilD} (h : IsFil w p b F) (hb : Below w.heap.size w w') : IsFil w' p b F :=
  h.keep' (hb.block p h.lt) (hb.block b h.ltb) fun k c e => hb.block k (ltAt e)
/-- Another filter's doings change nothing of it. -/
theorem IsFil.touch {w w' : World} {p b p' b' : Nat} {F G : FilD} (h : IsFil w p b F) (h' : IsFil w p' b' G) (t : Touch (onFil p' b') w w') (h1 : p ≠ p') (h2 : b ≠ b') : IsFil w' p b F := by
  obtain ⟨M, -, hm, -⟩ := h.held
  obtain ⟨M', -, hm', -⟩ := h'.held
  refine h.keep' (t.block p h.lt ?_) (t.block b h.ltb ?_) fun k c e => t.block k (ltAt e) ?_
  · rintro (e | e)
    · exact h1 e
    · exact hm'.not_cells (e ▸ h.head)
  · rintro (e | e)
    · exact hm.not_cells (e ▸ h'.head)
    · exact h2 e
  · rintro (rfl | rfl)
    · rw [h'.head] at e
      simp only [Option.some.injEq, Obj.cells.injEq] at e
      exact absurd e.2.1 (by decide)
    · exact hm'.not_cells e

/-- The record whose number is next. -/
def firstF (F : FilD) : Option RecD := F.L.find? fun r => decide (r.seq = F.next)
/-- One taken. -/
def takeF (F : FilD) : FilD := ⟨F.site, F.room, F.next + 1, F.L.filter fun r => decide (r.seq ≠ F.next)⟩
/-- So many taken. -/
def takesF : Nat → FilD → FilD
  | 0, F => F
  | n + 1, F => takesF n (takeF F)
/-- What may go on. -/
def readyF : Nat → FilD → List RecD
  | 0, _ => []
  | n + 1, F => match firstF F with
    | none => []
    | some r => r :: readyF n (takeF F)
def readyL (F : FilD) : List RecD := readyF F.L.length F

theorem firstF_some {F : FilD} {r : RecD} (h : firstF F = some r) : r ∈ F.L ∧ r.seq = F.next :=
  ⟨List.mem_of_find?_eq_some h, by have := List.find?_some h; simpa using this⟩
theorem firstF_none {F : FilD} (h : firstF F = none) : ∀ r ∈ F.L, r.seq ≠ F.next := by
  intro r hr
  have := List.find?_eq_none.1 h r hr
  simpa using this
theorem firstF_mem {F : FilD} (hok : F.ok) {r : RecD} (hr : r ∈ F.L) (h : r.seq = F.next) : firstF F = some r := by
  cases hf : firstF F with
  | none => exact absurd h (firstF_none hf r hr)
  | some x =>
    obtain ⟨hx, hxs⟩ := firstF_some hf
    obtain ⟨i, hi, rfl⟩ := List.getElem_of_mem hr
    obtain ⟨j, hj, rfl⟩ := List.getElem_of_mem hx
    have hp := List.pairwise_iff_getElem.1 hok.apart
    rcases Nat.lt_trichotomy i j with h1 | h1 | h1
    · exact absurd (h.trans hxs.symm) (hp i j hi hj h1)
    · subst h1; rfl
    · exact absurd (hxs.trans h.symm) (hp j i hj hi h1)
theorem takeF_length {F : FilD} (hok : F.ok) {r : RecD} (h : firstF F = some r) : (takeF F).L.length + 1 = F.L.length := by
  obtain ⟨hr, hs⟩ := firstF_some h
  obtain ⟨j, hj, e⟩ := List.getElem_of_mem hr
  have := eraseIdx_filter (fun r : RecD => r.seq) F.L j r (by rw [List.getElem?_eq_getElem hj, e]) hok.apart
  unfold takeF
  dsimp only
  rw [← hs, ← this, List.length_eraseIdx]
  rw [if_pos hj]
  omega
theorem takeF_ok {F : FilD} (hok : F.ok) {r : RecD} (h : firstF F = some r) : (takeF F).ok := by
  obtain ⟨hr, hs⟩ := firstF_some h
  have hg := good_of (hok.each r hr).1
  refine ⟨hok.site0, hok.site1, hok.room0, hok.room1, by have := hok.next0; simp [takeF]; omega, by simp [takeF]; omega, ?_, hok.apart.sublist (List.filter_sublist ..)⟩
  intro x hx
  simp only [takeF, List.mem_filter, decide_eq_true_eq] at hx ⊢
  obtain ⟨h1, h2, h3, h4⟩ := hok.each x hx.1
  exact ⟨h1, h2, by have := hx.2; omega, by omega⟩
theorem readyF_more : ∀ (n : Nat) (F : FilD), F.ok → F.L.length ≤ n → readyF n F = readyL F
  | 0, F, hok, h => by
    unfold readyL
    rw [Nat.le_zero.1 h]
  | n + 1, F, hok, h => by
    unfold readyL
    cases hl : F.L.length with
    | zero =>
      have : F.L = [] := List.length_eq_zero_iff.1 hl
      simp [readyF, firstF, this]
    | succ m =>
      unfold readyF
      cases hf : firstF F with
      | none => rfl
      | some r =>
        have e := takeF_length hok hf
        dsimp only
        rw [readyF_more n (takeF F) (takeF_ok hok hf) (by omega), readyF_more m (takeF F) (takeF_ok hok hf) (by omega)]
theorem readyL_none {F : FilD} (h : firstF F = none) : readyL F = [] := by
  unfold readyL
  cases F.L.length with
  | zero => rfl
  | succ m => simp [readyF, h]
theorem readyL_some {F : FilD} (hok : F.ok) {r : RecD} (h : firstF F = some r) : readyL F = r :: readyL (takeF F) := by
  have e := takeF_length hok h
  have : readyL F = readyF ((takeF F).L.length + 1) F := by unfold readyL; rw [e]
  rw [this, readyF, h]
  rfl
/-- Behind so many that were taken the others are ready. -/
theorem readyL_takes : ∀ (k : Nat) (F : FilD), F.ok → k ≤ (readyL F).length → (takesF k F).ok ∧ readyL (takesF k F) = (readyL F).drop k
  | 0, F, hok, _ => ⟨hok, rfl⟩
  | k + 1, F, hok, h => by
    cases hf : firstF F with
    | none => rw [readyL_none hf] at h; simp at h
    | some r =>
      have e := readyL_some hok hf
      rw [e] at h
      have := readyL_takes k (takeF F) (takeF_ok hok hf) (by simpa using h)
      rw [e]
      exact this
theorem takesF_succ : ∀ (k : Nat) (F : FilD), takesF (k + 1) F = takeF (takesF k F)
  | 0, F => rfl
  | k + 1, F => by
    show takesF (k + 1) (takeF F) = _
    rw [takesF_succ k (takeF F)]
    rfl
theorem takesF_next : ∀ (k : Nat) (F : FilD), (takesF k F).next = F.next + k
  | 0, F => by simp [takesF]
  | k + 1, F => by
    show (takesF k (takeF F)).next = _
    rw [takesF_next k (takeF F)]
    simp [takeF]
    omega
/-- What is the k-th to go on. -/
theorem readyL_first {F : FilD} (hok : F.ok) (k : Nat) (h : k ≤ (readyL F).length) : firstF (takesF k F) = (readyL F)[k]? := by
  obtain ⟨h1, h2⟩ := readyL_takes k F hok h
  cases hf : firstF (takesF k F) with
  | none =>
    rw [readyL_none hf] at h2
    have := congrArg List.length h2
    simp at this
    rw [List.getElem?_eq_none (by omega)]
  | some r =>
    rw [readyL_some h1 hf] at h2
    have := congrArg (fun l => l[0]?) h2
    simpa using this
theorem readyL_seq {F : FilD} (hok : F.ok) (k : Nat) (h : k < (readyL F).length) : ((readyL F)[k]).seq = F.next + k := by
  have := readyL_first hok k (by omega)
  rw [List.getElem?_eq_getElem h] at this
  rw [(firstF_some this).2, takesF_next]

/-- What Put tells, and what it makes. -/
def putE (F : FilD) (r : RecD) : Int :=
  if checkR r 8 = 0 then (if r.site = F.site then (if (F.L.any fun x => decide (x.seq = r.seq)) || decide (r.seq < F.next) then 5 else if F.next + F.room ≤ r.seq then 6 else 0) else 1) else checkR r 8
def putF (F : FilD) (r : RecD) : FilD := if putE F r = 0 then ⟨F.site, F.room, F.next, F.L ++ [r]⟩ else F
/-- What Reset tells, and what it makes. -/
def resetE (n : Int) : Int := if 1 ≤ n ∧ n ≤ 1048577 then 0 else 1
def resetF (F : FilD) (n : Int) : FilD := if 1 ≤ n ∧ n ≤ 1048577 then ⟨F.site, F.room, n, []⟩ else F

theorem putE_ok {F : FilD} {r : RecD} (h : putE F r = 0) : checkR r 8 = 0 ∧ r.site = F.site ∧ (∀ x ∈ F.L, x.seq ≠ r.seq) ∧ F.next ≤ r.seq ∧ r.seq < F.next + F.room := by
  unfold putE at h
  split at h
  · split at h
    · split at h
      · cases h
      · split at h
        · cases h
        · rename_i h1 h2 h3 h4
          simp only [Bool.or_eq_true, List.any_eq_true, decide_eq_true_eq, not_or, not_exists, not_and] at h3
          exact ⟨h1, h2, h3.1, by omega, by omega⟩
    · cases h
  · rename_i h1
    exact absurd h h1
theorem putF_ok {F : FilD} (hok : F.ok) (r : RecD) : (putF F r).ok := by
  unfold putF
  split
  · rename_i h
    obtain ⟨h1, h2, h3, h4, h5⟩ := putE_ok h
    refine ⟨hok.site0, hok.site1, hok.room0, hok.room1, hok.next0, hok.next1, ?_, ?_⟩
    · intro x hx
      rcases List.mem_append.1 hx with hx | hx
      · exact hok.each x hx
      · rw [List.mem_singleton.1 hx]
        exact ⟨h1, h2, h4, h5⟩
    · rw [List.pairwise_append]
      refine ⟨hok.apart, by simp, fun a ha b hb => ?_⟩
      rw [List.mem_singleton.1 hb]
      exact h3 a ha
  · exact hok
theorem resetF_ok {F : FilD} (hok : F.ok) (n : Int) : (resetF F n).ok := by
  unfold resetF
  split
  · rename_i h
    exact ⟨hok.site0, hok.site1, hok.room0, hok.room1, h.1, h.2, fun _ h => (by cases h), List.Pairwise.nil⟩
  · exact hok

end Go.Proofs.Ytompaldhnbcikaa

/- filter's New, Next, Len, Reset, Twin; the laws' R. Own work; no statement. -/
set_option linter.unusedSimpArgs false
set_option linter.unusedVariables false
namespace Go.Proofs.Ytompaldhnbcikaa
open Go.RowKit Go.Shelf

theorem cells4F {W : World} {b : Nat} {x0 x1 x2 x3 : Value} {t : TypeId} (h : W.heap[b]? = some (.cells #[x0, x1, x2, x3] t (0, 0))) :
    W.cell? ⟨b, 0, none⟩ = some x0 ∧ W.cell? ⟨b, 1, none⟩ = some x1 ∧ W.cell? ⟨b, 2, none⟩ = some x2 ∧ W.cell? ⟨b, 3, none⟩ = some x3 ∧ W.frozen? ⟨b, 0, none⟩ = false ∧ W.frozen? ⟨b, 1, none⟩ = false ∧ W.frozen? ⟨b, 2, none⟩ = false ∧ W.frozen? ⟨b, 3, none⟩ = false :=
  ⟨by simpa using cellsAt h 0, by simpa using cellsAt h 1, by simpa using cellsAt h 2, by simpa using cellsAt h 3, frozenAt h _, frozenAt h _, frozenAt h _, frozenAt h _⟩

theorem newF_ok {s r : Int} (h : 0 ≤ s ∧ s < 8 ∧ 1 ≤ r ∧ r ≤ 64) : FilD.ok ⟨s, r, 1, []⟩ := ⟨h.1, by dsimp only; omega, h.2.2.1, h.2.2.2, by dsimp only; omega, by dsimp only; omega, fun _ h => (by cases h), List.Pairwise.nil⟩

set_option maxRecDepth 100000 in
set_option maxHeartbeats 1000000 in
theorem filNew_calls (s r : Int) (w : World) (h : 0 ≤ s ∧ s < 8 ∧ 1 ≤ r ∧ r ≤ 64) :
    Calls Try.prog 10 #[.int .i64 s, .int .i64 r] w fun e w' => e = .returned (.tuple #[.pointer (some ⟨w.heap.size + 1, 0, none⟩), .int .i64 0]) ∧ IsFil w' (w.heap.size + 1) w.heap.size ⟨s, r, 1, []⟩ ∧ Below w.heap.size w w' := by
  obtain ⟨h1, h2, h3, h4⟩ := h
  have hmk := fun w => run_makeMap (P := Try.prog) (w := w) 67
  go_enter Try.func10, Try.ntmps10
  go_wp2
  go_ret2
  refine ⟨rfl, ⟨newF_ok ⟨h1, h2, h3, h4⟩, ?_, [], rfl, ⟨#[], 0, ?_, rfl⟩, fun _ h => (by cases h)⟩, (box_below w _).alloc (by simp) _⟩
  · have := World.alloc_heap_new (w.alloc (.map #[] 0)) (.cells #[.int .i64 s, .int .i64 r, .int .i64 1, .map (some w.heap.size)] 69)
    rwa [World.size_alloc] at this
  · exact (Below.heap_alloc _ _ _ (by simp)).trans (World.alloc_heap_new w _)

set_option maxRecDepth 100000 in
set_option maxHeartbeats 1000000 in
theorem filNew_none (s r : Int) (w : World) (h : ¬ (0 ≤ s ∧ s < 8 ∧ 1 ≤ r ∧ r ≤ 64)) :
    Calls Try.prog 10 #[.int .i64 s, .int .i64 r] w fun e w' => e = .returned (.tuple #[.pointer none, .int .i64 1]) ∧ w' = w := by
  have hh := hide h
  clear h
  by_cases h1 : s < 0
  · go_enter Try.func10, Try.ntmps10
    go_wp2
    go_ret2
    exact ⟨rfl, rfl⟩
  by_cases h2 : 8 ≤ s
  · go_enter Try.func10, Try.ntmps10
    go_wp2
    go_ret2
    exact ⟨rfl, rfl⟩
  by_cases h3 : r < 1
  · go_enter Try.func10, Try.ntmps10
    go_wp2
    go_ret2
    exact ⟨rfl, rfl⟩
  by_cases h4 : 64 < r
  · go_enter Try.func10, Try.ntmps10
    go_wp2
    go_ret2
    exact ⟨rfl, rfl⟩
  exact absurd ⟨by omega, by omega, by omega, by omega⟩ hh.out

set_option maxHeartbeats 1000000 in
theorem filNext_calls (p b : Nat) (F : FilD) (w : World) (h : IsFil w p b F) :
    Calls Try.prog 24 #[.pointer (some ⟨p, 0, none⟩)] w fun e w' => e = .returned (.int .i64 F.next) ∧ w' = w := by
  obtain ⟨c0, c1, c2, c3, -, -, -, -⟩ := cells4F h.head
  clear h
  go_enter Try.func24, Try.ntmps24
  go_wp2
  go_ret
  exact ⟨rfl, rfl⟩

set_option maxHeartbeats 1000000 in
theorem filLen_calls (p b : Nat) (F : FilD) (w : World) (h : IsFil w p b F) :
    Calls Try.prog 25 #[.pointer (some ⟨p, 0, none⟩)] w fun e w' => e = .returned (.int .i64 (F.L.length : Int)) ∧ w' = w := by
  obtain ⟨c0, c1, c2, c3, -, -, -, -⟩ := cells4F h.head
  obtain ⟨M, h1, h2, -⟩ := h.held
  have q := fun ty => map_len (P := Try.prog) Try.underlying67 ty h2
  rw [List.length_map, show M.length = F.L.length by rw [← h1]; simp] at q
  clear h h1 h2
  go_enter Try.func25, Try.ntmps25
  go_wp2
  go_ret
  exact ⟨rfl, rfl⟩

theorem resetF_yes (F : FilD) {n : Int} (h : 1 ≤ n ∧ n ≤ 1048577) : resetE n = 0 ∧ resetF F n = ⟨F.site, F.room, n, []⟩ := ⟨if_pos h, if_pos h⟩
theorem resetF_no (F : FilD) {n : Int} (h : ¬ (1 ≤ n ∧ n ≤ 1048577)) : resetE n = 1 ∧ resetF F n = F := ⟨if_neg h, if_neg h⟩

set_option maxHeartbeats 1000000 in
theorem filReset_calls (p b : Nat) (F : FilD) (n c : Int) (G : FilD) (hc : resetE n = c) (hG : resetF F n = G) (w : World) (hf : IsFil w p b F) :
    Calls Try.prog 18 #[.pointer (some ⟨p, 0, none⟩), .int .i64 n] w fun e w' => e = .returned (.int .i64 c) ∧ IsFil w' p b G ∧ Touch (onFil p b) w w' := by
  obtain ⟨c0, c1, c2, c3, f0, f1, f2, f3⟩ := cells4F hf.head
  have hok := hide (resetF_ok hf.ok n)
  replace hf := hide hf
  by_cases h1 : n < 1
  · obtain ⟨e1, e2⟩ := resetF_no F (n := n) (by omega)
    rw [e1] at hc
    rw [e2] at hG
    subst hc
    subst hG
    clear e1 e2
    go_enter Try.func18, Try.ntmps18
    go_wp2
    go_ret
    exact ⟨rfl, hf.out, Touch.refl _ _⟩
  by_cases h2 : 1048577 < n
  · obtain ⟨e1, e2⟩ := resetF_no F (n := n) (by omega)
    rw [e1] at hc
    rw [e2] at hG
    subst hc
    subst hG
    clear e1 e2
    go_enter Try.func18, Try.ntmps18
    go_wp2
    go_ret
    exact ⟨rfl, hf.out, Touch.refl _ _⟩
  obtain ⟨e1, e2⟩ := resetF_yes F (n := n) (by omega)
  rw [e1] at hc
  rw [hG] at hok
  rw [e2] at hG
  have HG := hide hG
  subst hc
  clear e1 e2 hG
  obtain ⟨M, m1, m2, m3⟩ := hf.out.held
  obtain ⟨w1, hrun, hm1, ht1⟩ := map_clear (P := Try.prog) Try.underlying67 0 m2
  have hp1 := hide ((ht1.block p hf.out.lt hf.out.ne).trans hf.out.head)
  obtain ⟨-, -, d2, -, -, -, g2, -⟩ := cells4F hp1.out
  have hn1 := hide hf.out.ne
  have ht := hide ht1
  have hm := hide hm1
  clear m2 m1 m3 ht1 hm1
  go_enter Try.func18, Try.ntmps18
  go_wp2
  go_ret
  refine ⟨rfl, ⟨hok.out, ?_, [], by rw [← HG.out]; rfl, hm.out.keep (Below.heap_setCell _ _ _ _ hn1.out.symm), fun _ h => (by cases h)⟩, (ht.out.mono fun k _ e => .inr e).set _ _ (.inl rfl)⟩
  rw [← HG.out]
  exact setAt hp1.out _

end Go.Proofs.Ytompaldhnbcikaa

/- filter's Twin, First. Own work; no statement. -/
set_option linter.unusedSimpArgs false
set_option linter.unusedVariables false
namespace Go.Proofs.Ytompaldhnbcikaa
open Go.RowKit Go.Shelf

theorem cells5F {W : World} {b : Nat} {x0 x1 x2 x3 x4 : Value} {t : TypeId} (h : W.heap[b]? = some (.cells #[x0, x1, x2, x3, x4] t (0, 0))) :
    W.cell? ⟨b, 0, none⟩ = some x0 ∧ W.cell? ⟨b, 1, none⟩ = some x1 ∧ W.cell? ⟨b, 2, none⟩ = some x2 ∧ W.cell? ⟨b, 3, none⟩ = some x3 ∧ W.cell? ⟨b, 4, none⟩ = some x4 ∧
    W.frozen? ⟨b, 0, none⟩ = false ∧ W.frozen? ⟨b, 1, none⟩ = false ∧ W.frozen? ⟨b, 2, none⟩ = false ∧ W.frozen? ⟨b, 3, none⟩ = false ∧ W.frozen? ⟨b, 4, none⟩ = false :=
  ⟨by simpa using cellsAt h 0, by simpa using cellsAt h 1, by simpa using cellsAt h 2, by simpa using cellsAt h 3, by simpa using cellsAt h 4, frozenAt h _, frozenAt h _, frozenAt h _, frozenAt h _, frozenAt h _⟩

set_option maxRecDepth 100000 in
set_option maxHeartbeats 2000000 in
theorem filTwin_calls (p b : Nat) (F : FilD) (w : World) (hf : IsFil w p b F) :
    Calls Try.prog 20 #[.pointer (some ⟨p, 0, none⟩)] w fun e w' => ∃ p' b', e = .returned (.pointer (some ⟨p', 0, none⟩)) ∧ IsFil w' p' b' F ∧ w.heap.size ≤ p' ∧ w.heap.size ≤ b' ∧ Below w.heap.size w w' := by
  obtain ⟨c0, c1, c2, c3, f0, f1, f2, f3⟩ := cells4F hf.head
  obtain ⟨M, m1, ⟨es, clock, m2, m4⟩, m3⟩ := hf.held
  have C : ∀ w : World, w.heap[b]? = some (.map es clock) → Calls Try.prog 32 #[.map (some b)] w fun e w' => e = .returned (.map (some w.heap.size)) ∧ w' = w.alloc (.map es clock) :=
    fun w hb => AnyW.maps_Clone Try.laysCloneMap b es clock w hb
  have d3 : ∀ o : Obj, (w.alloc o).cell? ⟨p, 3, none⟩ = some (.map (some b)) := fun o => Lib.cell?_alloc_some _ c3
  replace C := hide C
  replace hf := hide hf
  have m2' := hide m2
  replace m4 := hide m4
  replace m3 := hide m3
  replace m1 := hide m1
  clear m2
  go_enter Try.func20, Try.ntmps20
  go_wp2_with fail
  have hb1 := (box_below w (.cells #[.int .i64 F.site, .int .i64 F.room, .int .i64 F.next, .map (some b)] 69))
  refine (C.out _ ((hb1.block b (ltAt m2'.out)).trans m2'.out)).mono ?_
  rintro e w' ⟨rfl, rfl⟩
  rw [World.size_alloc]
  have hb2 := hb1.alloc (by simp) (.map es clock)
  have e1 := (Below.heap_alloc (w.alloc (.cells #[.int .i64 F.site, .int .i64 F.room, .int .i64 F.next, .map (some b)] 69)) (.map es clock) w.heap.size (by simp)).trans (World.alloc_heap_new w _)
  have e2 := World.alloc_heap_new (w.alloc (.cells #[.int .i64 F.site, .int .i64 F.room, .int .i64 F.next, .map (some b)] 69)) (.map es clock)
  rw [World.size_alloc] at e2
  obtain ⟨W2, hW2⟩ : ∃ W2, (w.alloc (.cells #[.int .i64 F.site, .int .i64 F.room, .int .i64 F.next, .map (some b)] 69)).alloc (.map es clock) = W2 := ⟨_, rfl⟩
  rw [hW2] at e1 e2 hb2
  rw [hW2]
  clear hW2 hb1 c0 c1 c2 c3 f0 f1 f2 f3 d3
  obtain ⟨-, -, -, c3, -, -, -, f3⟩ := cells4F e1
  replace e1 := hide e1
  replace e2 := hide e2
  go_wp2
  go_ret
  have hb3 := hb2.setCell (p := ⟨w.heap.size, 3, none⟩) (Nat.le_refl _) (.map (some (w.heap.size + 1)))
  refine ⟨_, w.heap.size + 1, rfl, ⟨hf.out.ok, setAt e1.out _, M, m1.out, ⟨es, clock, (Below.heap_setCell _ _ _ _ (by simp)).trans e2.out, m4.out⟩, fun x hx => (m3.out x hx).keep fun k c e => hb3.block k (ltAt e)⟩, Nat.le_refl _, by omega, hb3⟩

set_option maxRecDepth 100000 in
set_option maxHeartbeats 2000000 in
theorem filFirst_calls (p b : Nat) (F : FilD) (o : Option RecD) (ho : firstF F = o) (w : World) (hf : IsFil w p b F) :
    Calls Try.prog 21 #[.pointer (some ⟨p, 0, none⟩)] w fun e w' => ∃ v, e = .returned (.tuple #[v, .bool o.isSome]) ∧ OwnRec w.heap.size w' v (o.getD zeroR) ∧ Below w.heap.size w w' := by
  obtain ⟨c0, c1, c2, c3, f0, f1, f2, f3⟩ := cells4F hf.head
  obtain ⟨M, m1, m2, m3⟩ := hf.held
  obtain ⟨ob, hob⟩ : ∃ ob, w.heap[b]? = ob := ⟨_, rfl⟩
  have hL : ∃ v0, (∀ w', w'.heap[b]? = ob → (Instr.lookup 67 (.map (some b)) (.int .i64 F.next) true).run Try.prog w' = .ok (.tuple #[v0, .bool o.isSome]) w') ∧ OwnRec 0 w v0 (o.getD zeroR) := by
    subst hob
    rcases map_look2 (P := Try.prog) Try.underlying67 Try.underlying3 (z := .agg #[.int .i64 0, .int .i64 0, .slice none 0 0, .string ⟨#[]⟩, .string ⟨#[]⟩]) (fun w => Try.zeroValue35 w) F.next m2 with ⟨v, h1, h2⟩ | ⟨h1, h2⟩
    · obtain ⟨x, hx, he⟩ := List.mem_map.1 h1
      simp only [Prod.mk.injEq] at he
      have hxm : x.1 ∈ F.L := by rw [← m1]; exact List.mem_map.2 ⟨x, hx, rfl⟩
      have := firstF_mem hf.ok hxm he.1
      rw [ho] at this
      subst this
      exact ⟨v, h2, by rw [← he.2]; exact m3 x hx⟩
    · have : firstF F = none := by
        cases hq : firstF F with
        | none => rfl
        | some r =>
          obtain ⟨q1, q2⟩ := firstF_some hq
          rw [← m1] at q1
          obtain ⟨x, hx, rfl⟩ := List.mem_map.1 q1
          exact absurd q2 (h1 (x.1.seq, x.2) (List.mem_map.2 ⟨x, hx, rfl⟩))
      rw [ho] at this
      subst this
      exact ⟨_, h2, _, rfl, World.ownsRow_nil _ _ _ _⟩
  obtain ⟨v0, hl, vd, rfl, hr⟩ := hL
  have hdl : (o.getD zeroR).dep.length ≤ 8 := by
    cases ho' : o with
    | none => decide
    | some r =>
      rw [ho'] at ho
      exact (good_of (hf.ok.each r (firstF_some ho).1).1).2.2.2.2
  obtain ⟨a, cap, rfl⟩ := ownsRow_slice hr
  generalize o.getD zeroR = r at *
  replace hr := hide hr
  have hbl := hide hf.ltb
  have hp := hf.lt
  clear m1 m2 m3 hf ho
  obtain ⟨W0, hW0⟩ : ∃ W0, w.alloc (.cells #[.int .i64 0, .int .i64 0, .slice none 0 0, .string ⟨#[]⟩, .string ⟨#[]⟩] 35) = W0 := ⟨_, rfl⟩
  have e0 := World.alloc_heap_new w (.cells #[.int .i64 0, .int .i64 0, .slice none 0 0, .string ⟨#[]⟩, .string ⟨#[]⟩] 35)
  have hB0 := box_below w (.cells #[.int .i64 0, .int .i64 0, .slice none 0 0, .string ⟨#[]⟩, .string ⟨#[]⟩] 35)
  have hs0 : W0.heap.size = w.heap.size + 1 := by rw [← hW0]; simp
  rw [hW0] at e0 hB0
  have d2 : W0.cell? ⟨p, 2, none⟩ = _ := (World.cell?_of_block (a := ⟨p, 2, none⟩) (hB0.block p hp)).trans c2
  have d3 : W0.cell? ⟨p, 3, none⟩ = _ := (World.cell?_of_block (a := ⟨p, 3, none⟩) (hB0.block p hp)).trans c3
  have hbW : b < W0.heap.size := by have := hbl.out; omega
  have hob0 : W0.heap[b]? = ob := (hB0.block b hbl.out).trans hob
  have hW := hide hW0
  have hE0 := hide e0
  have HB0 := hide hB0
  clear hW0 c0 c1 c2 c3 f0 f1 f2 f3 e0 hB0 hob
  go_enter Try.func21, Try.ntmps21
  go_wp2_with fail
  rw [hW.out]
  clear hW
  go_region_held3 (fun x => x.cell? ⟨p, 2, none⟩ = some (.int .i64 F.next) ∧ x.cell? ⟨p, 3, none⟩ = some (.map (some b)) ∧ (Instr.lookup 67 (.map (some b)) (.int .i64 F.next) true).run Try.prog x = .ok (.tuple #[.agg #[.int .i64 r.site, .int .i64 r.seq, .slice a r.dep.length cap, .string r.key, .string r.val], .bool o.isSome]) x)
    (first
      | (refine ⟨by go_keep, by go_keep, hl _ hob0⟩)
      | (refine ⟨by go_keep, by go_keep, hl _ ((Below.heap_alloc _ _ _ (show b < W0.heap.size from hbW)).trans hob0)⟩))
    (fail)
  all_goals
    have e1 := World.alloc_heap_new W0 (.cells #[.int .i64 r.site, .int .i64 r.seq, .slice a r.dep.length cap, .string r.key, .string r.val] 35)
    have hB1 := (HB0.out.alloc (by omega) (.cells #[.int .i64 r.site, .int .i64 r.seq, .slice a r.dep.length cap, .string r.key, .string r.val] 35)).drew
    have e2 := (Below.heap_alloc W0 (.cells #[.int .i64 r.site, .int .i64 r.seq, .slice a r.dep.length cap, .string r.key, .string r.val] 35) w.heap.size (by omega)).trans hE0.out
    obtain ⟨W1, hW1⟩ : ∃ W1, (W0.alloc (.cells #[.int .i64 r.site, .int .i64 r.seq, .slice a r.dep.length cap, .string r.key, .string r.val] 35)).drew = W1 := ⟨_, rfl⟩
    rw [hs0] at e1
    replace e1 : W1.heap[w.heap.size + 1]? = some (.cells #[.int .i64 r.site, .int .i64 r.seq, .slice a r.dep.length cap, .string r.key, .string r.val] 35 (0, 0)) := by rw [← hW1]; exact e1
    replace e2 : W1.heap[w.heap.size]? = some (.cells #[.int .i64 0, .int .i64 0, .slice none 0 0, .string ⟨#[]⟩, .string ⟨#[]⟩] 35 (0, 0)) := by rw [← hW1]; exact e2
    rw [hW1] at hB1
    have C := hide (cloneVec_calls (.slice a r.dep.length cap) r.dep W1 (IsNums.of_row (ownsRow_of_heap hr.out fun k e => hB1.block k (hr.out.lt k e).2)) (by omega))
    rw [hW1]
    rename_i hHeld
    clear hHeld hW1 hE0 HB0 d2 d3 hob0 hl
    have HB1 := hide hB1
    have HE1 := hide e1
    have HE2 := hide e2
    have k2 := (cells5F e1).2.2.1
    clear hB1 e1 e2
    go_wp2_with fail
    refine C.out.mono ?_
    rintro e w2 ⟨v2, rfl, hown, hb2⟩
    clear k2
    have hB2 := HB1.out.trans (hb2.mono HB1.out.size)
    have e1 := keepB HE1.out hb2
    have e2 := keepB HE2.out hb2
    obtain ⟨a2, cap2, rfl⟩ := ownsRow_slice hown
    obtain ⟨z0, z1, z2, z3, z4, g0, g1, g2, g3, g4⟩ := cells5F e1
    obtain ⟨y0, y1, y2, y3, y4, h0, h1, h2, h3, h4⟩ := cells5F e2
    have Hown := hide hown
    have E1 := hide e1
    have E2 := hide e2
    have HB2 := hide hB2
    have hs2 := hide (show w.heap.size + 2 ≤ W1.heap.size from ltAt HE1.out)
    clear C HB1 HE1 HE2 hb2 hown e1 e2 hB2
    go_wp2
    obtain ⟨W3, hW3⟩ : ∃ W3, put5 (w2.setCell ⟨w.heap.size + 1, 2, none⟩ (.slice a2 r.dep.length cap2)) w.heap.size (.int .i64 r.site) (.int .i64 r.seq) (.slice a2 r.dep.length cap2) (.string r.key) (.string r.val) = W3 := ⟨_, rfl⟩
    have hoth : ∀ k, k ≠ w.heap.size → k ≠ w.heap.size + 1 → W3.heap[k]? = w2.heap[k]? := fun k hk hk' => by rw [← hW3]; exact (put5_other k hk _ _ _ _ _).trans (Below.heap_setCell _ _ _ _ hk')
    have e3 := put5_heap ((Below.heap_setCell w2 ⟨w.heap.size + 1, 2, none⟩ (.slice a2 r.dep.length cap2) w.heap.size (by simp)).trans E2.out) (.int .i64 r.site) (.int .i64 r.seq) (.slice a2 r.dep.length cap2) (.string r.key) (.string r.val)
    have hB3 := put5_below (HB2.out.setCell (p := ⟨w.heap.size + 1, 2, none⟩) (by simp) (.slice a2 r.dep.length cap2)) (Nat.le_refl _) (.int .i64 r.site) (.int .i64 r.seq) (.slice a2 r.dep.length cap2) (.string r.key) (.string r.val)
    rw [hW3] at e3 hB3
    unfold put5 at hW3
    rw [hW3]
    obtain ⟨k0, k1, k2, k3, k4, -, -, -, -, -⟩ := cells5F e3
    refine bodyPost_ret (v := .tuple #[.agg #[.int .i64 r.site, .int .i64 r.seq, .slice a2 r.dep.length cap2, .string r.key, .string r.val], .bool o.isSome]) (by simp [results, Try.f21, go_sem, k0, k1, k2, k3, k4]) rfl ⟨_, rfl, ⟨_, rfl, ?_⟩, hB3⟩
    have hs := hs2.out
    exact ownsRow_low (ownsRow_of_heap Hown.out fun k hk => hoth k (by have := (Hown.out.lt k hk).1; omega) (by have := (Hown.out.lt k hk).1; omega)) (by omega)

end Go.Proofs.Ytompaldhnbcikaa

/- filter's owned, Put. Own work; no statement. -/
set_option linter.unusedSimpArgs false
set_option linter.unusedVariables false
namespace Go.Proofs.Ytompaldhnbcikaa
open Go.RowKit Go.Shelf Go.Sort

set_option maxHeartbeats 4000000 in
set_option maxRecDepth 100000 in
theorem filOwned_calls (v : Value) (r : RecD) (w : World) (hv : IsRec w v r) (hl : r.dep.length ≤ 17592186044416) (hk : r.key.size ≤ 1099511627776) (hvl : r.val.size ≤ 1099511627776) :
    Calls Try.prog 29 #[v] w fun e w' => ∃ v', e = .returned v' ∧ OwnRec w.heap.size w' v' r ∧ Below w.heap.size w w' := by
  obtain ⟨site, seq, dep, key, val⟩ := r
  obtain ⟨a, cap, rfl, hn⟩ := hv
  dsimp only at *
  obtain ⟨W0, hW0⟩ : ∃ W0, (w.alloc (.cells #[.int .i64 site, .int .i64 seq, .slice a dep.length cap, .string key, .string val] 35)).alloc (.cells #[.int .i64 0, .int .i64 0, .slice none 0 0, .string ⟨#[]⟩, .string ⟨#[]⟩] 35) = W0 := ⟨_, rfl⟩
  have hB : Below w.heap.size w W0 := by rw [← hW0]; exact (box_below w _).alloc (by simp) _
  have hsz : w.heap.size + 2 ≤ W0.heap.size := by rw [← hW0]; simp
  have h0 : W0.heap[w.heap.size]? = some (.cells #[.int .i64 site, .int .i64 seq, .slice a dep.length cap, .string key, .string val] 35 (0, 0)) := by
    rw [← hW0]; exact (Below.heap_alloc _ _ _ (by simp)).trans (World.alloc_heap_new w _)
  have h1 : W0.heap[w.heap.size + 1]? = some (.cells #[.int .i64 0, .int .i64 0, .slice none 0 0, .string ⟨#[]⟩, .string ⟨#[]⟩] 35 (0, 0)) := by
    have := World.alloc_heap_new (w.alloc (.cells #[.int .i64 site, .int .i64 seq, .slice a dep.length cap, .string key, .string val] 35)) (.cells #[.int .i64 0, .int .i64 0, .slice none 0 0, .string ⟨#[]⟩, .string ⟨#[]⟩] 35)
    rw [hW0, World.size_alloc] at this
    exact this
  have q4 := hide (fun w => clone_calls key w hk)
  have q5 := hide (fun w => clone_calls val w hvl)
  have CV := hide (cloneVec_calls (.slice a dep.length cap) dep W0 (hn.below hB) hl)
  have X := hide h0
  have Z := hide h1
  have HW := hide hW0
  have k2 := (cells5F h0).2.2.1
  clear hW0 hn h0 h1
  go_enter Try.func29, Try.ntmps29
  go_wp2_with fail
  rw [HW.out]
  clear HW
  (try simp only [k2])
  refine CV.out.mono ?_
  rintro e w1 ⟨v1, rfl, hown, hb1⟩
  obtain ⟨a', cap', rfl⟩ := ownsRow_slice hown
  replace hB := hB.trans (hb1.mono hB.size)
  replace X := hide (keepB X.out hb1)
  replace Z := hide (keepB Z.out hb1)
  obtain ⟨c0, c1, c2, c3, c4, f0, f1, f2, f3, f4⟩ := cells5F X.out
  have Hown := hide hown
  clear CV hown k2
  go_wp2_with fail
  have X1 := setAt (j := 2) X.out (.slice a' dep.length cap')
  have Z1 := (Below.heap_setCell w1 ⟨w.heap.size, 2, none⟩ (.slice a' dep.length cap') (w.heap.size + 1) (by simp)).trans Z.out
  have B1 := hB.setCell (p := ⟨w.heap.size, 2, none⟩) (Nat.le_refl _) (.slice a' dep.length cap')
  have hoth1 : ∀ k, k ≠ w.heap.size → (w1.setCell ⟨w.heap.size, 2, none⟩ (.slice a' dep.length cap')).heap[k]? = w1.heap[k]? := fun k hk => Below.heap_setCell _ _ _ _ hk
  have hown1 := hide (ownsRow_of_heap Hown.out fun k hk => hoth1 k (by have := (Hown.out.lt k hk).1; omega))
  have hs1 : w.heap.size + 2 ≤ w1.heap.size := ltAt Z.out
  obtain ⟨W1, hW1⟩ : ∃ W1, w1.setCell ⟨w.heap.size, 2, none⟩ (.slice a' dep.length cap') = W1 := ⟨_, rfl⟩
  rw [hW1] at X1 Z1 B1 hown1
  rw [hW1]
  clear X Z hB hW1 hoth1 Hown c0 c1 c2 c3 c4 f0 f1 f2 f3 f4 hb1
  have X2 : W1.heap[w.heap.size]? = some (.cells #[.int .i64 site, .int .i64 seq, .slice a' dep.length cap', .string key, .string val] 35 (0, 0)) := by simpa using X1
  have X : Hid (W1.drew.heap[w.heap.size]? = some (.cells #[.int .i64 site, .int .i64 seq, .slice a' dep.length cap', .string key, .string val] 35 (0, 0))) := hide X2
  have Z : Hid (W1.drew.heap[w.heap.size + 1]? = _) := hide (show W1.drew.heap[w.heap.size + 1]? = some (.cells #[.int .i64 0, .int .i64 0, .slice none 0 0, .string ⟨#[]⟩, .string ⟨#[]⟩] 35 (0, 0)) from Z1)
  have hB := B1.drew
  replace hown1 : Hid (W1.drew.ownsRow W0.heap.size 3 1 (.slice a' dep.length cap') dep.length (dep.map (Value.int .i64))) := hown1
  clear X1 X2 Z1 B1
  have c3 := (cells5F X.out).2.2.2.1
  have c4 := (cells5F X.out).2.2.2.2.1
  have f3 := frozenAt X.out 3
  have f4 := frozenAt X.out 4
  go_region_with (first | (go_at_call_of 39 (Value.string key); refine (q4.out _).mono ?_; rintro e w' ⟨rfl, hb⟩; replace X := hide (keepB X.out hb); replace Z := hide (keepB Z.out hb); replace hown1 := hide (own_below hown1.out hb); replace hB := hB.trans (hb.mono hB.size); have c3 := (cells5F X.out).2.2.2.1; have c4 := (cells5F X.out).2.2.2.2.1; have f3 := frozenAt X.out 3; have f4 := frozenAt X.out 4) | (go_at_call_of 39 (Value.string val); refine (q5.out _).mono ?_; rintro e w' ⟨rfl, hb⟩; replace X := hide (keepB X.out hb); replace Z := hide (keepB Z.out hb); replace hown1 := hide (own_below hown1.out hb); replace hB := hB.trans (hb.mono hB.size); have c3 := (cells5F X.out).2.2.2.1; have c4 := (cells5F X.out).2.2.2.2.1; have f3 := frozenAt X.out 3; have f4 := frozenAt X.out 4))
  all_goals
    have X1 : ((w'.setCell ⟨w.heap.size, 3, none⟩ (.string key)).setCell ⟨w.heap.size, 4, none⟩ (.string val)).heap[w.heap.size]? = some (.cells #[.int .i64 site, .int .i64 seq, .slice a' dep.length cap', .string key, .string val] 35 (0, 0)) := by
      simpa using set1 (j := 4) (set1 (j := 3) X.out (.string key)) (.string val)
    have Z1 := (Below.heap_setCell (w'.setCell ⟨w.heap.size, 3, none⟩ (.string key)) ⟨w.heap.size, 4, none⟩ (.string val) (w.heap.size + 1) (by simp)).trans ((Below.heap_setCell w' ⟨w.heap.size, 3, none⟩ (.string key) (w.heap.size + 1) (by simp)).trans Z.out)
    have B1 := (hB.setCell (p := ⟨w.heap.size, 3, none⟩) (Nat.le_refl _) (.string key)).setCell (p := ⟨w.heap.size, 4, none⟩) (Nat.le_refl _) (.string val)
    have O1 := ownsRow_of_heap (W' := (w'.setCell ⟨w.heap.size, 3, none⟩ (.string key)).setCell ⟨w.heap.size, 4, none⟩ (.string val)) hown1.out (fun k hk => (Below.heap_setCell _ _ _ _ (by have := (hown1.out.lt k hk).1; simp; omega)).trans (Below.heap_setCell _ _ _ _ (by have := (hown1.out.lt k hk).1; simp; omega)))
    obtain ⟨W2, hW2⟩ : ∃ W2, (w'.setCell ⟨w.heap.size, 3, none⟩ (.string key)).setCell ⟨w.heap.size, 4, none⟩ (.string val) = W2 := ⟨_, rfl⟩
    rw [hW2] at X1 Z1 B1 O1
    rw [hW2]
    clear hW2 hB X Z c3 c4 f3 f4 hown1
    obtain ⟨x0, x1, x2, x3, x4, -, -, -, -, -⟩ := cells5F X1
    obtain ⟨z0, z1, z2, z3, z4, g0, g1, g2, g3, g4⟩ := cells5F Z1
    have Hown := hide O1
    have HZ2 := hide Z1
    have B2 := hide B1
    clear X1 Z1 O1 B1
    go_wp2
    obtain ⟨W3, hW3⟩ : ∃ W3, put5 W2 (w.heap.size + 1) (.int .i64 site) (.int .i64 seq) (.slice a' dep.length cap') (.string key) (.string val) = W3 := ⟨_, rfl⟩
    have e2 := put5_heap HZ2.out (.int .i64 site) (.int .i64 seq) (.slice a' dep.length cap') (.string key) (.string val)
    have hB2 := put5_below B2.out (show w.heap.size ≤ w.heap.size + 1 by omega) (.int .i64 site) (.int .i64 seq) (.slice a' dep.length cap') (.string key) (.string val)
    have hoth : ∀ k, k ≠ w.heap.size + 1 → W3.heap[k]? = W2.heap[k]? := fun k hk => by rw [← hW3]; exact put5_other k hk _ _ _ _ _
    rw [hW3] at e2 hB2
    unfold put5 at hW3
    rw [hW3]
    clear hW3 z0 z1 z2 z3 z4 g0 g1 g2 g3 g4
    obtain ⟨k0, k1, k2, k3, k4, -, -, -, -, -⟩ := cells5F e2
    refine bodyPost_ret (v := .agg #[.int .i64 site, .int .i64 seq, .slice a' dep.length cap', .string key, .string val]) (by simp [results, Try.f29, go_sem, k0, k1, k2, k3, k4]) rfl ⟨_, rfl, ⟨_, rfl, ?_⟩, hB2⟩
    exact ownsRow_low (ownsRow_of_heap Hown.out fun k hk => hoth k (by have := (Hown.out.lt k hk).1; omega)) (by omega)

end Go.Proofs.Ytompaldhnbcikaa
