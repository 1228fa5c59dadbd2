/- The reference's disks in memory; its small functions. Own work; no statement. -/
import Derived.Test.YtheaifgoleklpaaD7
import Derived.Laws.AppendOwnNone
import Derived.Maps.OwnIn
set_option linter.unusedSimpArgs false
set_option linter.unusedVariables false
namespace Go.Proofs.Ytheaifgoleklpaa
open Go.RowKit Go.Shelf

/-- At block q there lies a disk of the reference, its lines in a row of their own. -/
structure IsRD (w : World) (B q : Nat) (g : Option Nat) (D : DiskD) : Prop where
  ok : D.ok
  low : B ≤ q
  val : ∃ v, v.ownBlock = g ∧ w.heap[q]? = some (.cells #[.int .i64 D.room, v, .int .i64 D.lasts] 48 (0, 0)) ∧ w.ownsRow B 9 1 v D.lines.length (D.lines.map Value.string)

theorem IsRD.lt {w : World} {B p : Nat} {g : Option Nat} {D : DiskD} (h : IsRD w B p g D) : p < w.heap.size := by
  obtain ⟨v, _, hp, _⟩ := h.val
  exact ltAt hp
theorem IsRD.row {w : World} {B p : Nat} {g : Option Nat} {D : DiskD} (h : IsRD w B p g D) : ∀ k, g = some k → B ≤ k ∧ k < w.heap.size := by
  obtain ⟨v, rfl, hp, hr⟩ := h.val
  exact hr.lt
theorem IsRD.on {w : World} {B p : Nat} {g : Option Nat} {D : DiskD} (h : IsRD w B p g D) {k : Nat} (hk : onDisk p g k) : B ≤ k ∧ k < w.heap.size := by
  rcases hk with rfl | e
  · exact ⟨h.low, h.lt⟩
  · exact h.row k e
theorem IsRD.keep {w w' : World} {B p : Nat} {g : Option Nat} {D : DiskD} (h : IsRD w B p g D) (hk : ∀ k, onDisk p g k → w'.heap[k]? = w.heap[k]?) : IsRD w' B p g D := by
  obtain ⟨v, hv, hp, hr⟩ := h.val
  exact ⟨h.ok, h.low, v, hv, (hk p (.inl rfl)).trans hp, ownsRow_of_heap hr fun k e => hk k (.inr (hv ▸ e))⟩
theorem IsRD.touch {w w' : World} {S : Nat → Prop} {B p : Nat} {g : Option Nat} {D : DiskD} (h : IsRD w B p g D) (t : Touch S w w') (hS : ∀ k, onDisk p g k → ¬ S k) : IsRD w' B p g D :=
  h.keep fun k hk => t.block k (h.on hk).2 (hS k hk)
theorem IsRD.new {w w' : World} {B p : Nat} {g : Option Nat} {D : DiskD} (h : IsRD w B p g D) (t : Below w.heap.size w w') : IsRD w' B p g D :=
  h.keep fun k hk => t.block k (h.on hk).2
theorem IsRD.drews {w : World} {B p : Nat} {g : Option Nat} {D : DiskD} (h : IsRD w B p g D) (n : Nat) : IsRD (w.drewN n) B p g D := h.keep fun _ _ => rfl
theorem IsRD.below {w w' : World} {B p : Nat} {g : Option Nat} {D : DiskD} (h : IsRD w B p g D) (hB : B ≤ w.heap.size) (t : Touch (onDisk p g) w w') : Below B w w' := t.below hB fun _ _ e => (h.on e).1
theorem IsRD.len {w : World} {B p : Nat} {g : Option Nat} {D : DiskD} (h : IsRD w B p g D) : D.lines.length ≤ 1048576 ∧ bytesOf D.lines ≤ 1048576 := by
  have := bytesOf_length D.lines
  have := h.ok.fits
  have := h.ok.high
  omega
/-- Its cells, for a walk. -/
theorem IsRD.open {w : World} {B p : Nat} {g : Option Nat} {D : DiskD} (h : IsRD w B p g D) : ∃ a cap, w.cell? ⟨p, 0, none⟩ = some (.int .i64 D.room) ∧ w.cell? ⟨p, 1, none⟩ = some (.slice a D.lines.length cap) ∧ w.cell? ⟨p, 2, none⟩ = some (.int .i64 D.lasts) ∧
    (∀ j, w.frozen? ⟨p, j, none⟩ = false) ∧ (Value.slice a D.lines.length cap).ownBlock = g ∧ w.ownsRow B 9 1 (.slice a D.lines.length cap) D.lines.length (D.lines.map Value.string) ∧
    w.heap[p]? = some (.cells #[.int .i64 D.room, .slice a D.lines.length cap, .int .i64 D.lasts] 48 (0, 0)) := by
  obtain ⟨v, hv, hp, hr⟩ := h.val
  obtain ⟨a, cap, rfl⟩ := ownsRow_slice hr
  exact ⟨a, cap, by simpa using cellsAt hp 0, by simpa using cellsAt hp 1, by simpa using cellsAt hp 2, fun j => frozenAt hp j, hv, hr, hp⟩

set_option maxHeartbeats 400000 in
theorem refDiskNew_calls (room : Int) (w : World) (h : 1 ≤ room) (h' : room ≤ 1048576) :
    Calls Try.prog 11 #[.int .i64 room] w fun e w' => e = .returned (.tuple #[.pointer (some ⟨w.heap.size, 0, none⟩), .int .i64 0]) ∧ IsRD w' w.heap.size w.heap.size none ⟨room, [], 0⟩ ∧ Below w.heap.size w w' := by
  go_enter Try.func11, Try.ntmps11
  go_wp2
  go_ret2
  refine ⟨rfl, ⟨⟨h, h', by simp [bytesOf]; omega, by simp⟩, Nat.le_refl _, _, rfl, World.alloc_heap_new w _, World.ownsRow_nil _ _ _ _⟩, (Below.refl _ w).alloc (Nat.le_refl _) _⟩
set_option maxHeartbeats 400000 in
theorem refDiskNew_bad (room : Int) (w : World) (h : ¬ (1 ≤ room ∧ room ≤ 1048576)) :
    Calls Try.prog 11 #[.int .i64 room] w fun e w' => e = .returned (.tuple #[.pointer none, .int .i64 1]) ∧ w' = w := by
  by_cases h0 : room < 1
  · go_enter Try.func11, Try.ntmps11
    go_wp2
    go_ret2
    exact ⟨rfl, rfl⟩
  · have h1 : room > 1048576 := by omega
    go_enter Try.func11, Try.ntmps11
    go_wp2
    go_ret2
    exact ⟨rfl, rfl⟩
theorem bytesOf_take_succ (l : List ByteArray) (k : Nat) (h : k < l.length) : bytesOf (l.take (k + 1)) = bytesOf (l.take k) + l[k].size + 1 := by
  rw [List.take_add_one, List.getElem?_eq_getElem h, Option.toList_some, bytesOf_append]
  simp [bytesOf]
  omega
theorem bytesOf_take_le (l : List ByteArray) (k : Nat) : bytesOf (l.take k) ≤ bytesOf l := by
  have := bytesOf_take l k
  omega
set_option maxHeartbeats 1000000 in
theorem refDiskUsed_calls (B p : Nat) (g : Option Nat) (D : DiskD) (w : World) (hd : IsRD w B p g D) :
    Calls Try.prog 27 #[.pointer (some ⟨p, 0, none⟩)] w fun e w' => e = .returned (.int .i64 (bytesOf D.lines)) ∧ w' = w := by
  obtain ⟨a, cap, c0, c1, c2, hf, -, hr, -⟩ := hd.open
  have hl := hd.len
  have Hr := hide hr
  clear hd hr hf c0 c2
  go_enter Try.func27, Try.ntmps27
  go_wp2_with fail
  go_loop [3, 4] (fun n i => ∃ k : Nat, k ≤ D.lines.length ∧ n = .int .i64 (bytesOf (D.lines.take k) : Int) ∧ i = .int .i64 (k : Int)) (fun _ i => D.lines.length - (intOf i).toNat)
  case atStart => exact ⟨0, Nat.zero_le _, by simp [bytesOf], rfl⟩
  case round =>
    obtain ⟨k, hk, rfl, rfl⟩ := hrel
    by_cases hlt : k < D.lines.length
    · have hltI : (k : Int) < (D.lines.length : Int) := by omega
      obtain ⟨b, rfl, hc⟩ := strs_cell Hr.out k hlt
      have h1 := bytesOf_take_succ D.lines k hlt
      have h2 := bytesOf_take_le D.lines (k + 1)
      obtain ⟨s, hs⟩ : ∃ s, D.lines[k] = s := ⟨_, rfl⟩
      obtain ⟨y, hy⟩ : ∃ y, bytesOf (D.lines.take k) = y := ⟨_, rfl⟩
      rw [hs] at hc h1
      rw [hy] at h1 ⊢
      have H1 := hide h1
      have hb : y + s.size + 1 ≤ 1048576 := by omega
      clear hs hy h1 h2
      go_wp2_with fail
      refine ⟨⟨k + 1, by omega, by rw [H1.out]; congr 1, by go_num⟩, by simp [intOf]; omega⟩
    · have hltI : ¬ (k : Int) < (D.lines.length : Int) := by omega
      have e : D.lines.take k = D.lines := List.take_of_length_le (by omega)
      rw [e]
      go_wp2
      go_ret
      exact ⟨rfl, rfl⟩
theorem rd_setAt {w : World} {B p : Nat} {g : Option Nat} {D : DiskD} (hd : IsRD w B p g D) (m : Nat) (hm : m ≤ D.lines.length) : IsRD (w.setCell ⟨p, 2, none⟩ (.int .i64 (m : Int))) B p g ⟨D.room, D.lines, m⟩ := by
  obtain ⟨v, hv, hp, hr⟩ := hd.val
  refine ⟨⟨hd.ok.low, hd.ok.high, hd.ok.fits, hm⟩, hd.low, v, hv, by simpa using setAt (j := 2) hp (.int .i64 (m : Int)), ownsRow_of_heap hr fun k e => ?_⟩
  refine Below.heap_setCell _ _ _ _ fun e' => row_not hr hp (by decide) ?_
  rw [e]
  exact congrArg some e'.symm
set_option maxHeartbeats 400000 in
theorem refDiskSync_calls (B p : Nat) (g : Option Nat) (D : DiskD) (w : World) (hd : IsRD w B p g D) :
    Calls Try.prog 15 #[.pointer (some ⟨p, 0, none⟩)] w fun e w' => e = .returned (.tuple #[]) ∧ IsRD w' B p g ⟨D.room, D.lines, D.lines.length⟩ ∧ Touch (onDisk p g) w w' := by
  obtain ⟨a, cap, c0, c1, c2, hf, -, -, -⟩ := hd.open
  have hl := hd.len
  have f2 := hf 2
  have Hd := hide hd
  clear hd hf
  go_enter Try.func15, Try.ntmps15
  go_wp2
  go_end0
  exact ⟨rfl, rd_setAt Hd.out _ (Nat.le_refl _), (Touch.refl _ _).set _ _ (.inl rfl)⟩

end Go.Proofs.Ytheaifgoleklpaa
