/- Maps in memory whose keys are integers: looked up, written, deleted from, cleared. Own work; no statement. -/
import Derived.Test.YtompaldhnbcikaaD1
import Derived.Maps.Keyed
import Derived.Carry
set_option linter.unusedSimpArgs false
set_option linter.unusedVariables false
namespace Go.Proofs.Ytompaldhnbcikaa
open Go.RowKit Go.Shelf

/-- At block b there lies a map: these keys, with these values, in this order. -/
def MapAt (w : World) (b : Nat) (L : List (Int × Value)) : Prop :=
  ∃ (es : Array MapEntry) (clock : Nat), w.heap[b]? = some (.map es clock) ∧ es.toList.map (fun e => (e.key, e.val)) = L.map fun x => (Value.int .i64 x.1, x.2)

theorem MapAt.keep {w w' : World} {b : Nat} {L : List (Int × Value)} (h : MapAt w b L) (hk : w'.heap[b]? = w.heap[b]?) : MapAt w' b L := by
  obtain ⟨es, clock, h1, h2⟩ := h
  exact ⟨es, clock, hk.trans h1, h2⟩
theorem MapAt.lt {w : World} {b : Nat} {L : List (Int × Value)} (h : MapAt w b L) : b < w.heap.size := by
  obtain ⟨es, clock, h1, h2⟩ := h
  exact (Array.getElem?_eq_some_iff.1 h1).1
/-- A map's block is no block of cells. -/
theorem MapAt.not_cells {w : World} {b : Nat} {L : List (Int × Value)} (h : MapAt w b L) {c : Array Value} {t : TypeId} {f : Nat × Nat} : w.heap[b]? ≠ some (.cells c t f) := fun e => by
  obtain ⟨es, clock, h1, h2⟩ := h
  rw [h1] at e
  cases e

theorem eraseIdx_filter {α : Type} (f : α → Int) : ∀ (L : List α) (j : Nat) (x : α), L[j]? = some x → L.Pairwise (fun a b => f a ≠ f b) → L.eraseIdx j = L.filter fun y => decide (f y ≠ f x)
  | [], j, x, h, _ => by simp at h
  | a :: L, 0, x, h, hp => by
    simp only [List.getElem?_cons_zero, Option.some.injEq] at h
    subst h
    rw [List.pairwise_cons] at hp
    rw [List.eraseIdx_cons_zero, List.filter_cons_of_neg (by simp)]
    refine (List.filter_eq_self.2 fun y hy => ?_).symm
    simpa using fun e => hp.1 y hy e.symm
  | a :: L, j + 1, x, h, hp => by
    rw [List.getElem?_cons_succ] at h
    rw [List.pairwise_cons] at hp
    have hne : f a ≠ f x := hp.1 x (List.mem_of_getElem? h)
    rw [List.eraseIdx_cons_succ, List.filter_cons_of_pos (by simpa using hne), eraseIdx_filter f L j x h hp.2]

section
variable {P : Program} {w : World} {t k e : TypeId} {b : Nat} {L : List (Int × Value)}

theorem keys_of {es : Array MapEntry} (h : es.toList.map (fun e => (e.key, e.val)) = L.map fun x => (Value.int .i64 x.1, x.2)) : ∀ x ∈ es.toList, MapKept.IsKey (.int .i64) x.key := by
  intro x hx
  have : (x.key, x.val) ∈ L.map fun x => (Value.int .i64 x.1, x.2) := by rw [← h]; exact List.mem_map.2 ⟨x, hx, rfl⟩
  obtain ⟨y, -, hy⟩ := List.mem_map.1 this
  simp only [Prod.mk.injEq] at hy
  rw [← hy.1]
  rfl

/-- What is found: the one with that key, or none has it. -/
theorem MapAt.find (n : Int) (hb : MapAt w b L) : ∃ es clock, w.heap[b]? = some (.map es clock) ∧ es.toList.map (fun e => (e.key, e.val)) = (L.map fun x => (Value.int .i64 x.1, x.2)) ∧
    ((Instr.findNow (.int .i64) (.int .i64 n) es.toList 0 = some none ∧ ∀ x ∈ L, x.1 ≠ n) ∨
     ∃ (j : Nat) (v : Value), Instr.findNow (.int .i64) (.int .i64 n) es.toList 0 = some (some (j, v)) ∧ L[j]? = some (n, v)) := by
  obtain ⟨es, clock, h1, h2⟩ := hb
  refine ⟨es, clock, h1, h2, ?_⟩
  rcases MapKept.findNow_spec (d := .int .i64) (k := .int .i64 n) rfl es.toList 0 (keys_of h2) with ⟨h3, h4⟩ | ⟨j, e, h3, h4, h5⟩
  · refine .inl ⟨h3, fun x hx e => ?_⟩
    have : (Value.int .i64 x.1, x.2) ∈ es.toList.map fun e => (e.key, e.val) := by rw [h2]; exact List.mem_map.2 ⟨x, hx, rfl⟩
    obtain ⟨y, hy, hyx⟩ := List.mem_map.1 this
    simp only [Prod.mk.injEq] at hyx
    exact h4 y hy (hyx.1.trans (by rw [e]))
  · refine .inr ⟨j, e.val, by simpa using h3, ?_⟩
    have : (es.toList.map fun e => (e.key, e.val))[j]? = some (Value.int .i64 n, e.val) := by rw [List.getElem?_map, h4]; simp [h5]
    rw [h2, List.getElem?_map] at this
    cases hx : L[j]? with
    | none => rw [hx] at this; cases this
    | some x =>
      rw [hx] at this
      simp only [Option.map_some, Option.some.injEq, Prod.mk.injEq, Value.int.injEq, true_and] at this
      rw [← this.1, ← this.2]

theorem map_look (ht : P.underlying t = some (.map k e)) (hk : P.underlying k = some (.int .i64)) {z : Value} (hz : ∀ w, (zeroValue e).run P w = .ok z w) (n : Int) (hb : MapAt w b L) :
    (∃ v, (n, v) ∈ L ∧ (Instr.lookup t (.map (some b)) (.int .i64 n) true).run P w = .ok (.tuple #[v, .bool true]) w) ∨
    ((∀ x ∈ L, x.1 ≠ n) ∧ (Instr.lookup t (.map (some b)) (.int .i64 n) true).run P w = .ok (.tuple #[z, .bool false]) w) := by
  obtain ⟨es, clock, h1, h2, ⟨h3, h4⟩ | ⟨j, v, h3, h4⟩⟩ := hb.find n
  · exact .inr ⟨h4, by simp [Instr.lookup, run_underlying ht, MapKept.run_getObj_map h1, MapKept.run_checkKey hk (k := .int .i64 n) rfl, MapKept.run_findKey hk h3, hz, Result.andThen]⟩
  · exact .inl ⟨v, List.mem_of_getElem? h4, by simp [Instr.lookup, run_underlying ht, MapKept.run_getObj_map h1, MapKept.run_checkKey hk (k := .int .i64 n) rfl, MapKept.run_findKey hk h3, Result.andThen]⟩

/-- The same in each world where the map's block lies as it lies. -/
theorem map_look2 (ht : P.underlying t = some (.map k e)) (hk : P.underlying k = some (.int .i64)) {z : Value} (hz : ∀ w, (zeroValue e).run P w = .ok z w) (n : Int) (hb : MapAt w b L) :
    (∃ v, (n, v) ∈ L ∧ ∀ w', w'.heap[b]? = w.heap[b]? → (Instr.lookup t (.map (some b)) (.int .i64 n) true).run P w' = .ok (.tuple #[v, .bool true]) w') ∨
    ((∀ x ∈ L, x.1 ≠ n) ∧ ∀ w', w'.heap[b]? = w.heap[b]? → (Instr.lookup t (.map (some b)) (.int .i64 n) true).run P w' = .ok (.tuple #[z, .bool false]) w') := by
  obtain ⟨es, clock, h1, h2, ⟨h3, h4⟩ | ⟨j, v, h3, h4⟩⟩ := hb.find n
  · exact .inr ⟨h4, fun w' hw => by rw [h1] at hw; simp [Instr.lookup, run_underlying ht, MapKept.run_getObj_map hw, MapKept.run_checkKey hk (k := .int .i64 n) rfl, MapKept.run_findKey hk h3, hz, Result.andThen]⟩
  · exact .inl ⟨v, List.mem_of_getElem? h4, fun w' hw => by rw [h1] at hw; simp [Instr.lookup, run_underlying ht, MapKept.run_getObj_map hw, MapKept.run_checkKey hk (k := .int .i64 n) rfl, MapKept.run_findKey hk h3, Result.andThen]⟩

/-- Only the map's block has turned. -/
theorem put_touch (w : World) (b : Nat) (o : Obj) : Touch (fun x => x = b) w (w.putObj b o) :=
  ⟨rfl, rfl, rfl, by simp [World.putObj], fun k _ h => World.putObj_heap_other h⟩

theorem map_update (ht : P.underlying t = some (.map k e)) (hk : P.underlying k = some (.int .i64)) (n : Int) (v : Value) (hb : MapAt w b L) (hn : ∀ x ∈ L, x.1 ≠ n) :
    ∃ w', (Instr.mapUpdate t (.map (some b)) (.int .i64 n) v).run P w = .ok () w' ∧ MapAt w' b (L ++ [(n, v)]) ∧ Touch (fun x => x = b) w w' := by
  obtain ⟨es, clock, h1, h2, ⟨h3, h4⟩ | ⟨j, v, h3, h4⟩⟩ := hb.find n
  · refine ⟨w.putObj b (.map (es.push ⟨.int .i64 n, v, clock⟩) (clock + 1)), ?_, ⟨_, _, World.putObj_heap_same hb.lt, ?_⟩, put_touch w b _⟩
    · simp [Instr.mapUpdate, run_underlying ht, MapKept.run_getObj_map h1, MapKept.run_checkKey hk (k := .int .i64 n) rfl, MapKept.run_findKey hk h3, MapKept.run_setObj_map _ h1, Result.andThen, World.putObj]
    · simp [h2]
  · exact absurd rfl (hn _ (List.mem_of_getElem? h4))

theorem map_delete (ht : P.underlying t = some (.map k e)) (hk : P.underlying k = some (.int .i64)) (n : Int) (ty : TypeId) (hb : MapAt w b L) (hp : L.Pairwise fun x y => x.1 ≠ y.1) :
    ∃ w', (Builtin.delete_ #[t, k] ty #[.map (some b), .int .i64 n]).run P w = .ok (.tuple #[]) w' ∧ MapAt w' b (L.filter fun x => decide (x.1 ≠ n)) ∧ Touch (fun x => x = b) w w' := by
  obtain ⟨es, clock, h1, h2, ⟨h3, h4⟩ | ⟨j, v, h3, h4⟩⟩ := hb.find n
  · refine ⟨w.putObj b (.map es clock), ?_, ⟨_, _, World.putObj_heap_same hb.lt, ?_⟩, put_touch w b _⟩
    · simp [Builtin.delete_, run_underlying ht, MapKept.run_getObj_map h1, MapKept.run_checkKey hk (k := .int .i64 n) rfl, MapKept.run_findKey hk h3, MapKept.run_setObj_map _ h1, Result.andThen, World.putObj]
    · rw [h2, List.filter_eq_self.2 fun x hx => by simpa using h4 x hx]
  · have hj : j < es.toList.length := by
      have := congrArg List.length h2
      simp only [List.length_map] at this
      rw [this]
      exact (List.getElem?_eq_some_iff.1 h4).1
    have hsub : (es.eraseIdxIfInBounds j).toList = es.toList.eraseIdx j := by
      unfold Array.eraseIdxIfInBounds
      rw [dif_pos (by simpa using hj)]
      simp
    refine ⟨w.putObj b (.map (es.eraseIdxIfInBounds j) clock), ?_, ⟨_, _, World.putObj_heap_same hb.lt, ?_⟩, put_touch w b _⟩
    · simp [Builtin.delete_, run_underlying ht, MapKept.run_getObj_map h1, MapKept.run_checkKey hk (k := .int .i64 n) rfl, MapKept.run_findKey hk h3, MapKept.run_setObj_map _ h1, Result.andThen, World.putObj]
    · rw [hsub, ChangeMaps.map_eraseIdx, h2, ← ChangeMaps.map_eraseIdx, eraseIdx_filter (fun x : Int × Value => x.1) L j (n, v) h4 hp]

theorem map_clear (ht : P.underlying t = some (.map k e)) (ty : TypeId) (hb : MapAt w b L) :
    ∃ w', (Builtin.clear_ #[t] ty #[.map (some b)]).run P w = .ok (.tuple #[]) w' ∧ MapAt w' b [] ∧ Touch (fun x => x = b) w w' := by
  obtain ⟨es, clock, h1, h2⟩ := hb
  refine ⟨w.putObj b (.map #[] clock), ?_, ⟨_, _, World.putObj_heap_same (Array.getElem?_eq_some_iff.1 h1).1, rfl⟩, put_touch w b _⟩
  simp [Builtin.clear_, run_underlying ht, MapKept.run_getObj_map h1, MapKept.run_setObj_map _ h1, Result.andThen, World.putObj]

theorem map_len (ht : P.underlying t = some (.map k e)) (ty : TypeId) (hb : MapAt w b L) : (Builtin.len_ #[t] ty #[.map (some b)]).run P w = .ok (.int .i64 (L.length : Int)) w := by
  obtain ⟨es, clock, h1, h2⟩ := hb
  have e1 : (es.size : Int) = (L.length : Int) := by
    have := congrArg List.length h2
    simp at this
    omega
  simp [Builtin.len_, run_underlying ht, MapKept.run_getObj_map h1, goInt, Result.andThen, e1]
end

end Go.Proofs.Ytompaldhnbcikaa
