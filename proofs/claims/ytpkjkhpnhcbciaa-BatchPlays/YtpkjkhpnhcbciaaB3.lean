/- batch's firsts and its sequence. Own work; no statement. -/
import Derived.Test.YtpkjkhpnhcbciaaB2
import Derived.Test.YtpkjkhpnhcbciaaF8
set_option linter.unusedSimpArgs false
set_option linter.unusedVariables false
namespace Go.Proofs.Ytpkjkhpnhcbciaa
open Go.RowKit Go.Shelf

attribute [local go_sem] Oper.semAt_some

set_option maxHeartbeats 1000000 in
theorem bfirsts_calls (p : Nat) (w : World) :
    Calls Try.prog 17 #[.pointer (some ⟨p, 0, none⟩)] w fun en w' =>
      en = .returned (.func (.func 19) #[] #[.pointer (some ⟨w.heap.size, 0, none⟩)]) ∧ w' = w.alloc (.cells #[.pointer (some ⟨p, 0, none⟩)] 24) := by
  have hmf : ∀ (fn : Fn) (first cap : Array Value) (w : World), (Instr.makeFunc fn first cap).run Try.prog w = .ok (.func fn first cap) w := fun _ _ _ _ => rfl
  go_enter Try.func17, Try.ntmps17
  go_wp2
  go_ret
  exact ⟨rfl, rfl⟩

set_option maxHeartbeats 1000000 in
theorem btake_calls (p : Nat) (w : World) :
    Calls Try.prog 14 #[.pointer (some ⟨p, 0, none⟩)] w fun en w' =>
      en = .returned (.func (.func 16) #[] #[.pointer (some ⟨w.heap.size, 0, none⟩)]) ∧ w' = w.alloc (.cells #[.pointer (some ⟨p, 0, none⟩)] 24) := by
  have hmf : ∀ (fn : Fn) (first cap : Array Value) (w : World), (Instr.makeFunc fn first cap).run Try.prog w = .ok (.func fn first cap) w := fun _ _ _ _ => rfl
  go_enter Try.func14, Try.ntmps14
  go_wp2
  go_ret
  exact ⟨rfl, rfl⟩

set_option maxRecDepth 100000 in
set_option maxHeartbeats 4000000 in
/-- The first ones, one after the other, as many as go on at once: who asks takes them away. -/
theorem bfirsts_seq (n : Nat) (hn : 1 ≤ n) (lp bx B p : Nat) (g : Option Nat) (s : Int) (Fk : Nat → BatD) (J : Nat → World → Prop) (Jx : World → Prop)
    (hJf : ∀ k A, J k A → IsBat A B p g (Fk k) ∧ Boxed A bx 24 (.pointer (some ⟨p, 0, none⟩)))
    (hJb : ∀ k A B, J k A → Below A.heap.size A B → J k B)
    (hF : ∀ k, (Fk k).size = s)
    (hY : ∀ k A x, J k A → (k : Int) < s → (Fk k).L.head? = some x → YieldAt Fence.wide (n - 1) Try.prog lp #[.int .i64 x] A fun e C => (e = .returned (.bool true) ∧ J (k + 1) C) ∨ (e = .returned (.bool false) ∧ Jx C))
    (W : World) (h0 : J 0 W) :
    CallsIn Fence.wide n Try.prog 19 #[.func (.yield lp) #[] #[], .pointer (some ⟨bx, 0, none⟩)] W fun e B => (∃ v, e = .returned v) ∧ ((∃ k : Nat, ((k : Int) = s ∨ (k : Int) < s ∧ (Fk k).L.head? = none) ∧ J k B) ∨ Jx B) := by
  have HY := hide hY
  clear hY
  obtain ⟨hfil0, hbx0⟩ := hJf 0 W h0
  obtain ⟨a0, cap0, c0, -, -, -, -, -, -⟩ := hfil0.open
  have hs1 : 1 ≤ s := by rw [← hF 0]; exact hfil0.ok.low
  have hs2 : s ≤ 64 := by have := hfil0.ok.fits; have := hfil0.ok.high; rw [← hF 0]; omega
  have cb0 := hbx0.cell
  rw [hF] at c0
  replace hJf := hide hJf
  replace hJb := hide hJb
  replace hF := hide hF
  clear hfil0 hbx0
  refine callsIn_of_wp Try.func19 rfl trivial ?_ rfl
  simp only [Try.ntmps19, List.size_toArray, List.length_cons, List.length_nil, Nat.reduceAdd, Nat.reduceSub, Array.replicate_succ, Array.replicate_zero, List.push_toArray, List.append_toArray, List.nil_append, List.cons_append]
  gi_wp2
  gi_loopw [9] (fun i wr => ∃ k : Nat, (k : Int) ≤ s ∧ i = .int .i64 (k : Int) ∧ J k wr) (fun i _ => (s - intOf i).toNat)
  case atStart => exact ⟨0, by omega, rfl, h0⟩
  case round =>
    obtain ⟨k, hks, rfl, hJk⟩ := hrel
    have HJk := hide hJk
    clear hJk h0 c0 cb0
    by_cases hk : (k : Int) < s
    · obtain ⟨hfil, hbx⟩ := hJf.out k wr HJk.out
      have cb := hbx.cell
      have Hf := hide hfil
      clear hfil hbx
      obtain ⟨l, hl⟩ : ∃ l, (Fk k).L = l := ⟨_, rfl⟩
      cases l with
      | nil =>
        have C := hide (batFirst_none B p g (Fk k) hl wr Hf.out)
        gi_wp2_with (refine ⟨trivial, ?_⟩; gi_at_call 11; refine ((callsIn_wide (n := _)).2 C.out).mono ?_; rintro en w1 ⟨rfl, nd, rfl⟩)
        refine ⟨(fun _ h => by cases h), ?_⟩
        gi_wp2
        refine bodyPost_ret (results_none rfl _ _ _) rfl ?_
        exact ⟨⟨_, rfl⟩, .inl ⟨k, .inr ⟨hk, by rw [hl]; rfl⟩, hJb.out k _ _ HJk.out (drewsB _ _)⟩⟩
      | cons x l =>
        have C := hide (batFirst_some B p g (Fk k) x l hl wr Hf.out)
        gi_wp2_with (refine ⟨trivial, ?_⟩; gi_at_call 11; refine ((callsIn_wide (n := _)).2 C.out).mono ?_; rintro en w1 ⟨rfl, nd, rfl⟩; obtain ⟨fn, tmps, assign, body, hy, hR⟩ := HY.out k _ x (hJb.out k _ _ HJk.out (drewsB wr nd)) hk (by rw [hl]; rfl))
        refine hR.mono ?_
        rintro en W3 (⟨rfl, hJ3⟩ | ⟨rfl, hJx⟩)
        · gi_wp2
          exact ⟨⟨k + 1, by omega, by go_num, hJ3⟩, by simp [intOf]; omega⟩
        · gi_wp2
          refine bodyPost_ret (results_none rfl _ _ _) rfl ?_
          exact ⟨⟨_, rfl⟩, .inr hJx⟩
    · gi_wp2
      go_end0
      exact ⟨⟨_, rfl⟩, .inl ⟨k, .inl (by omega), HJk.out⟩⟩

end Go.Proofs.Ytpkjkhpnhcbciaa
