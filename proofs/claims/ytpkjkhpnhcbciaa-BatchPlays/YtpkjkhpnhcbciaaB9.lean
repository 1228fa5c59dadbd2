/- A batch and a row of numbers beside it, which the laws keep; both are told alike. Own work; no statement. -/
import Derived.Test.YtpkjkhpnhcbciaaB8
import Derived.Test.YtpkjkhpnhcbciaaWin
set_option linter.unusedSimpArgs false
set_option linter.unusedVariables false
namespace Go.Proofs.Ytpkjkhpnhcbciaa
open Go.RowKit Go.Shelf Go.Sort

/-- A batch at p, and beside it a slice v with the same numbers: all made since w0. -/
structure BothB (w0 w : World) (p : Nat) (g : Option Nat) (v : Value) (D : BatD) : Prop where
  bat : IsBat w w0.heap.size p g D
  win : IsWin w w0.heap.size 3 v D.L.length (D.L.map (Value.int .i64))
  apart : ∀ k, v.ownBlock = some k → g ≠ some k
  bel : Below w0.heap.size w0 w

section
variable {w0 w w' : World} {p : Nat} {g : Option Nat} {v : Value} {D : BatD}
theorem BothB.new (h : BothB w0 w p g v D) (hb : Below w.heap.size w w') : BothB w0 w' p g v D := ⟨h.bat.new hb, h.win.new hb, h.apart, h.bel.trans (hb.mono h.bel.size)⟩
/-- The slice's block is none of the batch's. -/
theorem BothB.off (h : BothB w0 w p g v D) {k : Nat} (hk : v.ownBlock = some k) : ¬ onBat p g k := by
  rintro (rfl | e)
  · obtain ⟨u, -, hp, -⟩ := h.bat.val
    exact h.win.not hp (by decide) hk
  · exact h.apart k hk e
/-- What the batch does leaves the slice. -/
theorem BothB.win_touch (h : BothB w0 w p g v D) (t : Touch (onBat p g) w w') : IsWin w' w0.heap.size 3 v D.L.length (D.L.map (Value.int .i64)) :=
  h.win.of_heap fun k hk => t.block k (h.win.lt k hk).2 (h.off hk)
theorem BothB.bel_touch (h : BothB w0 w p g v D) (t : Touch (onBat p g) w w') : Below w0.heap.size w0 w' := h.bel.trans (t.below h.bel.size fun k _ hk => (h.bat.on hk).1)
theorem BothB.form (h : BothB w0 w p g v D) : ∃ a cap, v = .slice a D.L.length cap := h.win.slice
theorem BothB.head (h : BothB w0 w p g v D) (x : Int) (hx : D.L.head? = some x) : ∃ b o cap, v = .slice (some ⟨b, o, none⟩) D.L.length cap ∧ w.cell? ⟨b, o, none⟩ = some (.int .i64 x) := by
  have hl : 0 < D.L.length := by
    cases h : D.L with
    | nil => rw [h] at hx; cases hx
    | cons y l => simp
  obtain ⟨b, o, cap, e, -, hc⟩ := h.win.cellAt 0 hl
  refine ⟨b, o, cap, e, ?_⟩
  rw [Nat.add_zero] at hc
  rw [hc]
  cases h : D.L with
  | nil => rw [h] at hx; cases hx
  | cons y l => rw [h] at hx; simp at hx ⊢; exact hx

/-- Add, where there is no room. -/
theorem both_full (x : Int) (hx : D.room ≤ (D.L.length : Int)) (w : World) (h : BothB w0 w p g v D) :
    Calls Try.prog 7 #[.pointer (some ⟨p, 0, none⟩), .int .i64 x] w fun e w' => e = .returned (.int .i64 6) ∧ ∃ n, w' = w.drewN n := batAdd_full _ p g D x hx w h.bat
/-- Add, where there is room: the batch has one more. -/
structure Ahead (w0 w : World) (p : Nat) (g : Option Nat) (v : Value) (D : BatD) (x : Int) : Prop where
  bat : IsBat w w0.heap.size p g ⟨D.size, D.room, D.L ++ [x]⟩
  win : IsWin w w0.heap.size 3 v D.L.length (D.L.map (Value.int .i64))
  apart : ∀ k, v.ownBlock = some k → g ≠ some k
  bel : Below w0.heap.size w0 w
theorem both_add (x : Int) (hx : (D.L.length : Int) < D.room) (w : World) (h : BothB w0 w p g v D) :
    Calls Try.prog 7 #[.pointer (some ⟨p, 0, none⟩), .int .i64 x] w fun e w' => e = .returned (.int .i64 0) ∧ ∃ g', Ahead w0 w' p g' v D x := by
  refine (batAdd_calls _ p g D x hx w h.bat).mono ?_
  rintro e w' ⟨rfl, g', h1, h2, h3⟩
  refine ⟨rfl, some g', h1, h.win_touch h2, fun k hk e => ?_, h.bel_touch h2⟩
  rcases h3 with h3 | h3
  · exact h.apart k hk (h3.trans e)
  · have h4 := (h.win.lt k hk).2
    simp only [Option.some.injEq] at e
    omega
/-- .. and the slice too. -/
theorem Ahead.more {x : Int} {w1 : World} {v1 : Value} {o : Obj} (h : Ahead w0 w p g v D x) (hw : IsWin w1 w0.heap.size 3 v1 (D.L.length + 1) (D.L.map (Value.int .i64) ++ [.int .i64 x])) (hg : (w.alloc o).grownBy w1 v.ownBlock) (hat : v1.ownBlock = v.ownBlock ∨ ∀ k, v1.ownBlock = some k → (w.alloc o).heap.size ≤ k) :
    BothB w0 w1 p g v1 ⟨D.size, D.room, D.L ++ [x]⟩ := by
  have ht : Touch (fun k => v.ownBlock = some k) w w1 := ((Touch.refl _ w).alloc o).next (S1 := fun k => v.ownBlock = some k) ⟨hg.os, hg.tape, hg.output, hg.size, fun k hk hn => hg.block k hk fun e => hn e.symm⟩ fun _ _ e => e
  have hoff : ∀ k, onBat p g k → ¬ v.ownBlock = some k := by
    rintro k (rfl | e) hk
    · obtain ⟨u, -, hp, -⟩ := h.bat.val
      exact h.win.not hp (by decide) hk
    · exact h.apart k hk e
  refine ⟨h.bat.touch ht hoff, ?_, fun k hk e => ?_, h.bel.trans (ht.below h.bel.size fun k _ hk => (h.win.lt k hk).1)⟩
  · dsimp only
    rw [List.length_append, List.map_append]
    exact hw
  · rcases hat with h1 | h1
    · exact h.apart k (h1 ▸ hk) e
    · have h2 := h1 k hk
      have h3 := (h.bat.row k e).2
      simp at h2
      omega
/-- Take, from where on the slice is cut. -/
theorem both_taken (n : Int) (h1 : -9223372036854775808 ≤ n ∧ n ≤ 9223372036854775807) (k : Nat) (hk : (k : Int) = min (max n 0) (min D.size (D.L.length : Int))) (w : World) (h : BothB w0 w p g v D) :
    Calls Try.prog 8 #[.pointer (some ⟨p, 0, none⟩), .int .i64 n] w fun e w' => ∃ x, e = .returned (.tuple #[x, .bool true]) ∧ (∃ a cap, x = .slice a k cap ∧ ∀ j, j < k → ∃ b, a = some ⟨b, 0, none⟩ ∧ ∃ y, w'.cell? ⟨b, j, none⟩ = some (.int .i64 y) ∧ D.L[j]? = some y) ∧
      IsWin w' w0.heap.size 3 v D.L.length (D.L.map (Value.int .i64)) ∧ IsBat w' w0.heap.size p g (takesB k D) ∧ Below w0.heap.size w0 w' := by
  have hs := h.bat.ok.low
  by_cases hn : n ≤ 0
  · refine (btaken_none _ p g D n hn w h.bat).mono ?_
    rintro e w' ⟨rfl, hb⟩
    obtain rfl : k = 0 := by omega
    have h' := h.new hb
    exact ⟨_, rfl, ⟨_, _, rfl, fun j hj => absurd hj (by omega)⟩, h'.win, by simpa [takesB] using h'.bat, h'.bel⟩
  · obtain ⟨m, rfl⟩ : ∃ m : Nat, n = (m : Int) := ⟨n.toNat, by omega⟩
    refine (btaken_some _ p g D m (by omega) (by omega) w h.bat).mono ?_
    rintro e w' ⟨x, rfl, hx, hbt, ht⟩
    have hkm : min m (readyB D).length = k := by
      simp [readyB]
      omega
    have hL : (readyB D).take m = D.L.take k := by
      unfold readyB
      rw [List.take_take, List.take_eq_take_iff]
      omega
    rw [hL] at hx
    rw [hkm] at hbt
    have hlk : (D.L.take k).length = k := by simp; omega
    obtain ⟨a, cap, rfl, hc⟩ := HasB.form hx
    refine ⟨_, rfl, ⟨a, cap, by rw [hlk], fun j hj => ?_⟩, h.win_touch ht, hbt, h.bel_touch ht⟩
    obtain ⟨b, rfl, h2⟩ := hc j (by omega)
    exact ⟨b, rfl, _, h2, by rw [List.getElem_take]; exact List.getElem?_eq_getElem (by omega)⟩
theorem BothB.cut {k : Nat} (hw : IsWin w w0.heap.size 3 v D.L.length (D.L.map (Value.int .i64))) (hb : IsBat w w0.heap.size p g (takesB k D)) (hap : ∀ k, v.ownBlock = some k → g ≠ some k) (hbl : Below w0.heap.size w0 w) (hk : k ≤ D.L.length) : BothB w0 w p g (dropV v k) (takesB k D) := by
  obtain ⟨h1, h2⟩ := hw.drop k hk
  refine ⟨hb, ?_, by rw [h2]; exact hap, hbl⟩
  have e : (takesB k D).L = D.L.drop k := rfl
  rw [e, List.map_drop, List.length_drop]
  exact h1
/-- Clear, the slice let go of. -/
theorem both_clear (w : World) (h : BothB w0 w p g v D) :
    Calls Try.prog 9 #[.pointer (some ⟨p, 0, none⟩)] w fun e w' => e = .returned (.tuple #[]) ∧ BothB w0 w' p none (.slice none 0 0) ⟨D.size, D.room, []⟩ := by
  refine (batClear_calls _ p g D w h.bat).mono ?_
  rintro e w' ⟨rfl, h1, h2⟩
  exact ⟨rfl, h1, .nil _ _ _, fun k hk => (by cases hk), h.bel_touch (h2.mono fun k _ e => .inl e)⟩
/-- The twin goes on. -/
theorem both_twin (w : World) (h : BothB w0 w p g v D) :
    Calls Try.prog 10 #[.pointer (some ⟨p, 0, none⟩)] w fun e w' => ∃ q, e = .returned (.pointer (some ⟨q, 0, none⟩)) ∧ IsBat w' w0.heap.size p g D ∧ ∃ g', BothB w0 w' q g' v D ∧ q ≠ p := by
  refine (batTwin_calls _ p g D w h.bat).mono ?_
  rintro e w' ⟨rfl, g', h1, h2⟩
  have h' := h.new h2
  refine ⟨_, rfl, h'.bat, g', ⟨⟨h1.ok, Nat.le_trans h.bel.size h1.low, let ⟨u, q1, q2, q3⟩ := h1.val; ⟨u, q1, q2, ownsRow_low q3 h.bel.size⟩⟩, h'.win, fun k hk e => ?_, h'.bel⟩, ?_⟩
  · have q1 := (h1.row k e).1
    have q2 := (h.win.lt k hk).2
    omega
  · have := h.bat.lt
    omega
/-- The elder one cleared. -/
theorem both_off {q : Nat} {g1 : Option Nat} {D1 : BatD} (w : World) (h : BothB w0 w q g v D) (h1 : IsBat w w0.heap.size p g1 D1) (hne : q ≠ p) :
    Calls Try.prog 9 #[.pointer (some ⟨p, 0, none⟩)] w fun e w' => e = .returned (.tuple #[]) ∧ BothB w0 w' q g v D := by
  refine (batClear_calls _ p g1 D1 w h1).mono ?_
  rintro e w' ⟨rfl, h2, h3⟩
  obtain ⟨u, -, hp, -⟩ := h1.val
  have ho : ∀ k, onBat q g k → ¬ k = p := by
    rintro k (rfl | e) rfl
    · exact hne rfl
    · obtain ⟨u2, rfl, hq, hr⟩ := h.bat.val
      exact row_not hr hp (by decide) e.symm
  refine ⟨rfl, h.bat.touch h3 ho, h.win.of_heap fun k hk => h3.block k (h.win.lt k hk).2 fun e => h.win.not hp (by decide) (e ▸ hk), h.apart, h.bel.trans (h3.below h.bel.size fun k _ e => ?_)⟩
  subst e
  exact h1.low
end

end Go.Proofs.Ytpkjkhpnhcbciaa
