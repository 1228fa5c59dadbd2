/- Batches in the laws: contracts one behind the other; the laws' known. Own work; no statement. -/
import Derived.Test.YtpkjkhpnhcbciaaB6
set_option linter.unusedSimpArgs false
set_option linter.unusedVariables false
namespace Go.Proofs.Ytpkjkhpnhcbciaa
open Go.RowKit Go.Shelf Go.Sort

/-- Since w0 there is a batch at p, all its memory made since. -/
def AtB (w0 w : World) (p : Nat) (D : BatD) : Prop := ∃ g, IsBat w w0.heap.size p g D ∧ Below w0.heap.size w0 w

section
variable {w0 : World} {p : Nat} {D : BatD}
theorem AtB.new {w w' : World} (h : AtB w0 w p D) (hb : Below w.heap.size w w') : AtB w0 w' p D := by
  obtain ⟨g, h1, h2⟩ := h
  exact ⟨g, h1.new hb, h2.trans (hb.mono h2.size)⟩
theorem AtB.bel {w : World} (h : AtB w0 w p D) : Below w0.heap.size w0 w := by
  obtain ⟨g, h1, h2⟩ := h
  exact h2
theorem AtB.ok {w : World} (h : AtB w0 w p D) : D.ok := by
  obtain ⟨g, h1, h2⟩ := h
  exact h1.ok
theorem bnew_on (s r : Int) (hs : 1 ≤ s ∧ s ≤ r ∧ r ≤ 64) (w : World) (hb : Below w0.heap.size w0 w) :
    Calls Try.prog 6 #[.int .i64 s, .int .i64 r] w fun e w' => ∃ p, e = .returned (.tuple #[.pointer (some ⟨p, 0, none⟩), .int .i64 0]) ∧ AtB w0 w' p ⟨s, r, []⟩ :=
  (batNew_calls s r w hs).mono fun e w' ⟨h1, h2, h3⟩ => ⟨_, h1, none, ⟨h2.ok, Nat.le_trans hb.size h2.low, let ⟨v, q1, q2, q3⟩ := h2.val; ⟨v, q1, q2, ownsRow_low q3 hb.size⟩⟩, hb.trans (h3.mono hb.size)⟩
theorem badd_on (x c : Int) (G : BatD) (hc : addE D = c) (hG : addB D x = G) (w : World) (h : AtB w0 w p D) :
    Calls Try.prog 7 #[.pointer (some ⟨p, 0, none⟩), .int .i64 x] w fun e w' => e = .returned (.int .i64 c) ∧ AtB w0 w' p G := by
  obtain ⟨g, h1, h2⟩ := h
  by_cases hx : D.room ≤ (D.L.length : Int)
  · unfold addE at hc
    unfold addB at hG
    rw [if_pos hx] at hc hG
    subst hc
    subst hG
    refine (batAdd_full _ p g D x hx w h1).mono ?_
    rintro e w' ⟨rfl, n, rfl⟩
    exact ⟨rfl, g, h1.new (drewsB _ _), h2.trans ((drewsB w n).mono h2.size)⟩
  · unfold addE at hc
    unfold addB at hG
    rw [if_neg hx] at hc hG
    subst hc
    subst hG
    refine (batAdd_calls _ p g D x (by omega) w h1).mono ?_
    rintro e w' ⟨rfl, g', h3, h4, -⟩
    exact ⟨rfl, some g', h3, h2.trans (h4.below h2.size fun k _ hk => (h1.on hk).1)⟩
theorem blen_on (n : Nat) (hn : D.L.length = n) (w : World) (h : AtB w0 w p D) :
    Calls Try.prog 12 #[.pointer (some ⟨p, 0, none⟩)] w fun e w' => e = .returned (.int .i64 (n : Int)) ∧ w' = w := by
  obtain ⟨g, h1, h2⟩ := h
  subst hn
  exact batLen_calls _ p g D w h1
theorem bfull_on (b : Bool) (hb : decide (D.size ≤ (D.L.length : Int)) = b) (w : World) (h : AtB w0 w p D) :
    Calls Try.prog 13 #[.pointer (some ⟨p, 0, none⟩)] w fun e w' => e = .returned (.bool b) ∧ ∃ n, w' = w.drewN n := by
  obtain ⟨g, h1, h2⟩ := h
  exact batFull_calls _ p g D b hb w h1
theorem bfirst_on (x : Int) (b : Bool) (hx : D.L.head? = if b then some x else none) (h0 : b = false → x = 0) (w : World) (h : AtB w0 w p D) :
    Calls Try.prog 11 #[.pointer (some ⟨p, 0, none⟩)] w fun e w' => e = .returned (.tuple #[.int .i64 x, .bool b]) ∧ ∃ n, w' = w.drewN n := by
  obtain ⟨g, h1, h2⟩ := h
  cases b with
  | false =>
    obtain rfl := h0 rfl
    exact batFirst_none _ p g D (by simpa using hx) w h1
  | true =>
    cases hl : D.L with
    | nil => rw [hl] at hx; simp at hx
    | cons y l =>
      rw [hl] at hx
      obtain rfl : y = x := by simpa using hx
      exact batFirst_some _ p g D y l hl w h1
theorem btaken_on (most : Nat) (hm : 1 ≤ most) (hm2 : most ≤ 9223372036854775807) (L : List Int) (G : BatD) (hL : (readyB D).take most = L) (hG : takesB (min most (readyB D).length) D = G) (w : World) (h : AtB w0 w p D) :
    Calls Try.prog 8 #[.pointer (some ⟨p, 0, none⟩), .int .i64 (most : Int)] w fun e w' => ∃ v, e = .returned (.tuple #[v, .bool true]) ∧ HasB w' w.heap.size v L ∧ AtB w0 w' p G := by
  subst hL
  subst hG
  obtain ⟨g, h1, h2⟩ := h
  refine (btaken_some _ p g D most hm hm2 w h1).mono ?_
  rintro e w' ⟨v, rfl, h3, h4, h5⟩
  exact ⟨v, rfl, h3, g, h4, h2.trans (h5.below h2.size fun k _ hk => (h1.on hk).1)⟩
end

/-- The row's form, and each number. -/
theorem HasB.form {w : World} {B : Nat} {v : Value} {L : List Int} (h : HasB w B v L) : ∃ a cap, v = .slice a L.length cap ∧ ∀ j (hj : j < L.length), ∃ g, a = some ⟨g, 0, none⟩ ∧ w.cell? ⟨g, j, none⟩ = some (.int .i64 L[j]) := by
  obtain ⟨a, cap, rfl⟩ := ownsRow_slice h
  exact ⟨a, cap, rfl, fun j hj => ints_cell h j hj⟩

def kB0 : BatD := ⟨2, 3, []⟩
def kB1 : BatD := ⟨2, 3, [7]⟩
def kB2 : BatD := ⟨2, 3, [7, 8]⟩
def kB3 : BatD := ⟨2, 3, [7, 8, 9]⟩
def kB4 : BatD := ⟨2, 3, [9]⟩

set_option maxRecDepth 100000 in
set_option maxHeartbeats 4000000 in
theorem batKnown_calls (w : World) : Calls Try.prog 5 #[] w fun e w' => e = .returned (.bool true) ∧ Below w.heap.size w w' := by
  go_enter Try.func5, Try.ntmps5
  go_wp2_with fail
  refine (bnew_on (w0 := w) 2 3 (by decide) w (Below.refl _ _)).mono ?_
  rintro e w1 ⟨p, rfl, A1⟩
  go_wp2_with fail
  refine (batNew_none 4 3 w1 (by decide)).mono ?_
  rintro e w1' ⟨rfl, rfl⟩
  go_wp2_with fail
  refine (bfull_on false (by decide) w1' A1).mono ?_
  rintro e w2 ⟨rfl, n2, rfl⟩
  replace A1 := A1.new (drewsB w1' n2)
  generalize w1'.drewN n2 = w2 at *
  go_wp2_with fail
  refine (badd_on 7 0 kB1 (by decide) (by kernel_rfl) w2 A1).mono ?_
  rintro e w3 ⟨rfl, A3⟩
  clear A1
  go_wp2_with fail
  refine (badd_on 8 0 kB2 (by decide) (by kernel_rfl) w3 A3).mono ?_
  rintro e w4 ⟨rfl, A4⟩
  clear A3
  go_wp2_with fail
  refine (badd_on 9 0 kB3 (by decide) (by kernel_rfl) w4 A4).mono ?_
  rintro e w5 ⟨rfl, A5⟩
  clear A4
  go_wp2_with fail
  refine (badd_on 1 6 kB3 (by decide) (by kernel_rfl) w5 A5).mono ?_
  rintro e w6 ⟨rfl, A6⟩
  clear A5
  go_wp2_with fail
  refine (bfirst_on 7 true rfl (by decide) w6 A6).mono ?_
  rintro e w7 ⟨rfl, n7, rfl⟩
  replace A6 := A6.new (drewsB w6 n7)
  generalize w6.drewN n7 = w7 at *
  go_wp2_with fail
  refine (bfull_on true (by decide) w7 A6).mono ?_
  rintro e w8 ⟨rfl, n8, rfl⟩
  replace A6 := A6.new (drewsB w7 n8)
  generalize w7.drewN n8 = w8 at *
  go_wp2_with fail
  refine (btaken_on 9 (by decide) (by decide) [7, 8] kB4 (by kernel_rfl) (by kernel_rfl) w8 A6).mono ?_
  rintro e w9 ⟨v, rfl, hv, A9⟩
  clear A6
  obtain ⟨a, cap, rfl, hc⟩ := hv.form
  obtain ⟨g, rfl, hg⟩ := hc 1 (by decide)
  have hg' : w9.cell? ⟨g, 1, none⟩ = some (.int .i64 8) := hg
  clear hc hg hv
  dsimp only [List.length_cons, List.length_nil]
  go_wp2_with fail
  refine (blen_on 1 rfl w9 A9).mono ?_
  rintro e w' ⟨rfl, rfl⟩
  go_wp2_with fail
  go_ret
  exact ⟨rfl, A9.bel⟩

end Go.Proofs.Ytpkjkhpnhcbciaa
