/- stripe's dealt and ended: their sequences. Own work; no statement. -/
import Derived.Test.YtndhkbmgpjjepaaDoorM6
import Derived.Test.YtndhkbmgpjjepaaDoorM7
set_option linter.unusedSimpArgs false
set_option linter.unusedVariables false
namespace Go.Proofs.YtndhkbmgpjjepaaDoor
open Go.RowKit Go.Shelf

attribute [local go_sem] Oper.semAt_some

/-- What a round must keep: the blocks of G. -/
def KeepsB (G : Nat → Prop) (A C : World) : Prop := ∀ b, G b → C.heap[b]? = A.heap[b]?
theorem keepsB_t {G : Nat → Prop} {A B C : World} (h : KeepsB G A B) (k : KeepsB G B C) : KeepsB G A C := fun b hb => (k b hb).trans (h b hb)
theorem keepsB_b {G : Nat → Prop} {n : Nat} (hg : ∀ b, G b → b < n) (W : World) (l : Nat) (o o' : Obj) (hl : n ≤ l) (_ : W.heap[l]? = some o) (_ : o.isCells = false) (_ : o.isWalk = false) : KeepsB G W (W.putObj l o') := fun b hb => by
  have := hg b hb
  exact World.putObj_heap_other (by omega)

/-- The positions that are left, the last ones ahead of e: as many as fuel lasts. -/
def stepL (N e : Int) : Nat → Int → List Int
  | 0, _ => []
  | f + 1, left => if left ≤ 0 then [] else (e - left) :: stepL N e f (left - N)
theorem stepL_none (N e : Int) (f : Nat) (left : Int) (h : left ≤ 0) : stepL N e f left = [] := by
  cases f with
  | zero => rfl
  | succ f => rw [stepL, if_pos h]
theorem stepL_fuel {N e : Int} (hN : 1 ≤ N) : ∀ (f g : Nat) (left : Int), left ≤ f → left ≤ g → stepL N e f left = stepL N e g left
  | 0, g, left, h, _ => by rw [stepL_none _ _ g _ (by omega)]; rfl
  | f + 1, 0, left, _, h => by rw [stepL_none _ _ (f + 1) _ (by omega)]; rfl
  | f + 1, g + 1, left, h1, h2 => by
    unfold stepL
    split
    · rfl
    · rw [stepL_fuel hN f g (left - N) (by omega) (by omega)]
theorem stepL_cons {N e : Int} (hN : 1 ≤ N) {left : Int} (h : 0 < left) : stepL N e left.toNat left = (e - left) :: stepL N e (left - N).toNat (left - N) := by
  obtain ⟨f, hf⟩ : ∃ f, left.toNat = f + 1 := ⟨left.toNat - 1, by omega⟩
  rw [hf, stepL, if_neg (by omega), stepL_fuel hN f (left - N).toNat (left - N) (by omega) (by omega)]
theorem wrap64_mid (n : Int) (h : -9223372036854775808 ≤ n) (h' : n ≤ 9223372036854775807) : wrap64 n = n := by unfold wrap64; omega
/-- Where a stripe's first one is. -/
def leftL (x : Int × Int) (k a e : Int) : Int := e - max a x.1 - (k - (max a x.1 - x.1)) % x.2
/-- What a stripe has of a span, from a on and below e. -/
def dealtL (x : Int × Int) (k a e : Int) : List Int := if k < 0 ∨ x.2 ≤ k ∨ e ≤ max a x.1 then [] else stepL x.2 e (leftL x k a e).toNat (leftL x k a e)

/-- A number handed over. -/
def encInt (x : Int) : Array Value := #[.int .i64 x]

set_option maxHeartbeats 1000000 in
theorem dealt_calls (x : Int × Int) (k a e : Int) (w : World) :
    Calls Tryd.prog 34 #[.agg #[.int .i64 x.1, .int .i64 x.2], .int .i64 k, .int .i64 a, .int .i64 e] w fun en w' =>
      en = .returned (.func (.func 40) #[] #[.pointer (some ⟨w.heap.size + 2, 0, none⟩), .pointer (some ⟨w.heap.size, 0, none⟩), .pointer (some ⟨w.heap.size + 1, 0, none⟩), .pointer (some ⟨w.heap.size + 3, 0, none⟩)]) ∧
      w' = (((w.alloc (.cells #[.int .i64 x.1, .int .i64 x.2] 48)).alloc (.cells #[.int .i64 k] 3)).alloc (.cells #[.int .i64 a] 3)).alloc (.cells #[.int .i64 e] 3) := by
  have hmf : ∀ (fn : Fn) (first cap : Array Value) (w : World), (Instr.makeFunc fn first cap).run Tryd.prog w = .ok (.func fn first cap) w := fun _ _ _ _ => rfl
  go_enter Tryd.func34, Tryd.ntmps34
  go_wp2
  go_ret
  exact ⟨rfl, rfl⟩

/-- The four boxes that dealt's sequence goes by. -/
structure IsDealt (w : World) (b : Nat) (x : Int × Int) (k a e : Int) : Prop where
  s : w.heap[b]? = some (.cells #[.int .i64 x.1, .int .i64 x.2] 48 (0, 0))
  k : Boxed w (b + 1) 3 (.int .i64 k)
  a : Boxed w (b + 2) 3 (.int .i64 a)
  e : Boxed w (b + 3) 3 (.int .i64 e)
theorem IsDealt.keep {w w' : World} {b : Nat} {x : Int × Int} {k a e : Int} (h : IsDealt w b x k a e) (hk : ∀ c, b ≤ c → c < b + 4 → w'.heap[c]? = w.heap[c]?) : IsDealt w' b x k a e :=
  ⟨(hk b (by omega) (by omega)).trans h.s, boxed_of_heap h.k (hk _ (by omega) (by omega)), boxed_of_heap h.a (hk _ (by omega) (by omega)), boxed_of_heap h.e (hk _ (by omega) (by omega))⟩

set_option maxRecDepth 100000 in
set_option maxHeartbeats 2000000 in
theorem dealt_seq (n : Nat) (hn : 1 ≤ n) (b : Nat) (x : Int × Int) (k a e : Int) (w : World) (hd : IsDealt w b x k a e) (hx : 0 ≤ x.1 ∧ x.1 ≤ 9223372036854775807 ∧ 1 ≤ x.2 ∧ x.2 ≤ 8) (hk : -1048576 ≤ k ∧ k ≤ 1048576) (ha : 0 ≤ a ∧ a ≤ 1048576) (he : 0 ≤ e ∧ e ≤ 1048576) :
    SeqO n Tryd.prog 40 #[.pointer (some ⟨b + 2, 0, none⟩), .pointer (some ⟨b, 0, none⟩), .pointer (some ⟨b + 1, 0, none⟩), .pointer (some ⟨b + 3, 0, none⟩)] encInt (KeepsB fun c => b ≤ c ∧ c < b + 4) (dealtL x k a e) w := by
  intro lp J Jx W hW hJo hY h0
  obtain ⟨F, N⟩ := x
  dsimp only at hx
  have hd := hd.keep (w' := W) (fun c h1 h2 => hW.block c (by have := hd.e.lt; omega))
  have cs0 := cellsAt hd.s 0
  have cs1 := cellsAt hd.s 1
  simp only [List.getElem?_toArray, List.getElem?_cons_zero, List.getElem?_cons_succ] at cs0 cs1
  have ck := hd.k.cell
  have ca := hd.a.cell
  have ce := hd.e.cell
  obtain ⟨xs, hxs⟩ : ∃ xs, dealtL (F, N) k a e = xs := ⟨_, rfl⟩
  rw [hxs] at hY ⊢
  unfold dealtL at hxs
  dsimp only at hxs
  have HY := hide hY
  have Hd := hide hd
  have HJ := hide hJo
  clear hY hJo hd hW
  have hN0 : (N == 0) = false := by rw [beq_eq_false_iff_ne]; omega
  refine callsIn_of_wp Tryd.func40 rfl trivial ?_ rfl
  simp only [Tryd.ntmps40, List.size_toArray, List.length_cons, List.length_nil, Nat.reduceAdd, Nat.reduceSub, Array.replicate_succ, Array.replicate_zero, List.push_toArray, List.append_toArray, List.nil_append, List.cons_append]
  by_cases hbad : k < 0 ∨ N ≤ k ∨ e ≤ max a F
  · rw [if_pos hbad] at hxs
    subst hxs
    by_cases h1 : k < 0
    · gi_wp2
      refine bodyPost_ret (results_none rfl _ _ _) rfl ?_
      first | exact ⟨⟨_, rfl⟩, h0⟩ | exact ⟨⟨_, rfl⟩, Or.inl h0⟩
    · by_cases h2 : N ≤ k
      · gi_wp2
        refine bodyPost_ret (results_none rfl _ _ _) rfl ?_
        first | exact ⟨⟨_, rfl⟩, h0⟩ | exact ⟨⟨_, rfl⟩, Or.inl h0⟩
      · have h3 : e ≤ max a F := by omega
        gi_wp2
        refine bodyPost_ret (results_none rfl _ _ _) rfl ?_
        first | exact ⟨⟨_, rfl⟩, h0⟩ | exact ⟨⟨_, rfl⟩, Or.inl h0⟩
  · rw [if_neg hbad] at hxs
    have h1 : ¬ k < 0 := by omega
    have h2 : ¬ N ≤ k := by omega
    have h3 : ¬ e ≤ max a F := by omega
    have hr0 := Int.emod_nonneg (max a F - F) (show N ≠ 0 by omega)
    have hr1 := Int.emod_lt_of_pos (max a F - F) (show 0 < N by omega)
    have hw1 : wrap64 (k - (max a F - F) % N) = k - (max a F - F) % N := wrap64_mid _ (by omega) (by omega)
    have hw2 : wrap64 (k - (max a F - F) % N + N) = k - (max a F - F) % N + N := wrap64_mid _ (by omega) (by omega)
    have ht : (k - (max a F - F) % N + N).tmod N = (k - (max a F - F) % N + N) % N := Int.tmod_eq_emod_of_nonneg (by omega)
    have hs0 := Int.emod_nonneg (k - (max a F - F)) (show N ≠ 0 by omega)
    have hs1 := Int.emod_lt_of_pos (k - (max a F - F)) (show 0 < N by omega)
    have hw3 : wrap64 (e - max a F - (k - (max a F - F)) % N) = e - max a F - (k - (max a F - F)) % N := wrap64_mid _ (by omega) (by omega)
    have hL : e - max a F - (k - (max a F - F)) % N ≤ 1048576 ∧ -1048576 ≤ e - max a F - (k - (max a F - F)) % N := by omega
    unfold leftL at hxs
    dsimp only at hxs
    gi_wp2
    (try simp only [hw1, hw2, ht, hw3])
    generalize e - max a F - (k - (max a F - F)) % N = L0 at *
    clear hr0 hr1 hw1 hw2 ht hs0 hs1 hw3 cs0 ck ca
    gi_loopw [9] (fun lf wr => ∃ (i : Nat) (L : Int), lf = .int .i64 L ∧ L ≤ L0 ∧ -8 ≤ L + 1048576 ∧ i ≤ xs.length ∧ xs.drop i = stepL N e L.toNat L ∧ J i wr ∧ KeepsB (fun c => b ≤ c ∧ c < b + 4) W wr) (fun lf _ => (intOf lf).toNat)
    case atStart => exact ⟨0, L0, rfl, Int.le_refl _, by omega, Nat.zero_le _, hxs.symm, h0, fun _ _ => rfl⟩
    case round =>
      obtain ⟨i, L, rfl, hL1, hL2, hi, hdr, hJi, hkp⟩ := hrel
      have hd2 := Hd.out.keep (w' := wr) (fun c h1 h2 => hkp c ⟨h1, h2⟩)
      have cs1 := cellsAt hd2.s 1
      simp only [List.getElem?_toArray, List.getElem?_cons_zero, List.getElem?_cons_succ] at cs1
      have ce := hd2.e.cell
      by_cases hpos : 0 < L
      · rw [stepL_cons (by omega) hpos] at hdr
        have hil : i < xs.length := by
          have := congrArg List.length hdr
          simp at this
          omega
        rw [List.drop_eq_getElem_cons hil] at hdr
        simp only [List.cons.injEq] at hdr
        obtain ⟨hx0, hdr⟩ := hdr
        obtain ⟨fn, tmps, assign, body, hy, hR⟩ := HY.out i hil wr hJi
        rw [hx0] at hy
        dsimp only [encInt] at hy
        have Hdr := hide hdr
        have Hkp := hide hkp
        clear hdr hkp hx0 hd2
        gi_wp2
        refine hR.mono ?_
        rintro en W3 (⟨rfl, hJ3, hk3⟩ | ⟨rfl, hJx3⟩)
        · have cs2 : W3.cell? ⟨b, 1, none⟩ = _ := (World.cell?_of_block (a := ⟨b, 1, none⟩) (hk3 b ⟨by omega, by omega⟩)).trans cs1
          gi_wp2
          exact ⟨⟨i + 1, L - N, rfl, by omega, by omega, by omega, Hdr.out, hJ3, keepsB_t Hkp.out hk3⟩, by simp [intOf]; omega⟩
        · gi_wp2
          refine bodyPost_ret (results_none rfl _ _ _) rfl ?_
          exact ⟨⟨_, rfl⟩, .inr ⟨i, hil, hJx3⟩⟩
      · rw [stepL_none _ _ _ _ (by omega)] at hdr
        have hil : i = xs.length := by
          have := congrArg List.length hdr
          simp at this
          omega
        subst hil
        gi_wp2
        go_end0
        exact ⟨⟨_, rfl⟩, .inl hJi⟩

end Go.Proofs.YtndhkbmgpjjepaaDoor
