/- filter's firsts and its sequence. Own work; no statement. -/
import Derived.Test.YtompaldhnbcikaaF6
set_option linter.unusedSimpArgs false
set_option linter.unusedVariables false
namespace Go.Proofs.Ytompaldhnbcikaa
open Go.RowKit Go.Shelf

attribute [local go_sem] Oper.semAt_some

set_option maxHeartbeats 1000000 in
theorem firsts_calls (p : Nat) (w : World) :
    Calls Try.prog 44 #[.pointer (some ⟨p, 0, none⟩)] w fun en w' =>
      en = .returned (.func (.func 48) #[] #[.pointer (some ⟨w.heap.size, 0, none⟩)]) ∧ w' = w.alloc (.cells #[.pointer (some ⟨p, 0, none⟩)] 25) := by
  have hmf : ∀ (fn : Fn) (first cap : Array Value) (w : World), (Instr.makeFunc fn first cap).run Try.prog w = .ok (.func fn first cap) w := fun _ _ _ _ => rfl
  go_enter Try.func44, Try.ntmps44
  go_wp2
  go_ret
  exact ⟨rfl, rfl⟩

set_option maxHeartbeats 1000000 in
theorem ready_calls (p : Nat) (w : World) :
    Calls Try.prog 31 #[.pointer (some ⟨p, 0, none⟩)] w fun en w' =>
      en = .returned (.func (.func 43) #[] #[.pointer (some ⟨w.heap.size, 0, none⟩)]) ∧ w' = w.alloc (.cells #[.pointer (some ⟨p, 0, none⟩)] 25) := by
  have hmf : ∀ (fn : Fn) (first cap : Array Value) (w : World), (Instr.makeFunc fn first cap).run Try.prog w = .ok (.func fn first cap) w := fun _ _ _ _ => rfl
  go_enter Try.func31, Try.ntmps31
  go_wp2
  go_ret
  exact ⟨rfl, rfl⟩

/-- The number that a filter at p has as its next. -/
def nextAt (p : Nat) (w : World) : Int := match w.cell? ⟨p, 2, none⟩ with
  | some (.int _ n) => n
  | _ => 0
theorem nextAt_fil {w : World} {p b : Nat} {F : FilD} (h : IsFil w p b F) : nextAt p w = F.next := by
  unfold nextAt
  rw [(cells4F h.head).2.2.1]

set_option maxRecDepth 100000 in
set_option maxHeartbeats 4000000 in
/-- The first ones, one after the other, as long as there is one: who asks takes it away. -/
theorem firsts_seq (n : Nat) (hn : 1 ≤ n) (lp bx p b N : Nat) (s : Int) (Fk : Nat → FilD) (J : Nat → World → Prop) (Jx : World → Prop)
    (hJf : ∀ k A, J k A → IsFil A p b (Fk k) ∧ Boxed A bx 25 (.pointer (some ⟨p, 0, none⟩)))
    (hJb : ∀ k A B, J k A → Below A.heap.size A B → J k B)
    (hF : ∀ k, (Fk k).next = s + k) (hN : ∀ k A, J k A → k ≤ N)
    (hY : ∀ k A r v, J k A → firstF (Fk k) = some r → OwnRec 0 A v r → YieldAt Fence.wide (n - 1) Try.prog lp #[v] A fun e C => (e = .returned (.bool true) ∧ J (k + 1) C) ∨ (e = .returned (.bool false) ∧ Jx C))
    (W : World) (h0 : J 0 W) :
    CallsIn Fence.wide n Try.prog 48 #[.func (.yield lp) #[] #[], .pointer (some ⟨bx, 0, none⟩)] W fun e B => (∃ v, e = .returned v) ∧ ((∃ k, firstF (Fk k) = none ∧ J k B) ∨ Jx B) := by
  have HY := hide hY
  clear hY
  replace hJf := hide hJf
  replace hJb := hide hJb
  replace hN := hide hN
  replace hF := hide hF
  refine callsIn_of_wp Try.func48 rfl trivial ?_ rfl
  simp only [Try.ntmps48, List.size_toArray, List.length_cons, List.length_nil, Nat.reduceAdd, Nat.reduceSub, Array.replicate_succ, Array.replicate_zero, List.push_toArray, List.append_toArray, List.nil_append, List.cons_append]
  gi_wp2
  gi_loopw [] (fun wr => ∃ k : Nat, J k wr) (fun wr => (s + N - nextAt p wr).toNat)
  case atStart => exact ⟨0, h0⟩
  case round =>
    obtain ⟨k, hJk⟩ := hrel
    obtain ⟨hfil, hbx⟩ := hJf.out k wr hJk
    have cb := hbx.cell
    have hnx := hide (nextAt_fil hfil)
    have hkN := hN.out k wr hJk
    have C := hide (fun o ho => filFirst_calls p b (Fk k) o ho wr hfil)
    have HJk := hide hJk
    clear hfil hbx hJk
    obtain ⟨o, ho⟩ : ∃ o, firstF (Fk k) = o := ⟨_, rfl⟩
    cases o with
    | none =>
      gi_wp2_with (refine ⟨trivial, ?_⟩; gi_at_call 21; refine ((callsIn_wide (n := _)).2 (C.out none ho)).mono ?_; rintro en w1 ⟨v, rfl, ⟨vd, rfl, hown⟩, hb1⟩; obtain ⟨a, cap, rfl⟩ := ownsRow_slice hown; clear hown)
      refine ⟨(fun _ h => by cases h), ?_⟩
      gi_wp2
      refine bodyPost_ret (results_none rfl _ _ _) rfl ?_
      exact ⟨⟨_, rfl⟩, .inl ⟨k, ho, hJb.out k _ _ HJk.out (hb1.alloc hb1.size _)⟩⟩
    | some r =>
      gi_wp2_with (refine ⟨trivial, ?_⟩; gi_at_call 21; refine ((callsIn_wide (n := _)).2 (C.out (some r) ho)).mono ?_; rintro en w1 ⟨v, rfl, ⟨vd, rfl, hown⟩, hb1⟩; obtain ⟨a, cap, rfl⟩ := ownsRow_slice hown; have hJ2 := hJb.out k _ _ HJk.out (hb1.alloc hb1.size (.cells #[.int .i64 r.site, .int .i64 r.seq, .slice a r.dep.length cap, .string r.key, .string r.val] 35)); obtain ⟨fn, tmps, assign, body, hy, hR⟩ := HY.out k _ r (.agg #[.int .i64 r.site, .int .i64 r.seq, .slice a r.dep.length cap, .string r.key, .string r.val]) hJ2 ho ⟨_, rfl, ownsRow_low (hown.alloc _) (Nat.zero_le _)⟩; clear hown)
      refine hR.mono ?_
      rintro en W3 (⟨rfl, hJ3⟩ | ⟨rfl, hJx⟩)
      · have hn3 := hide (nextAt_fil (hJf.out _ _ hJ3).1)
        have hN3 := hN.out _ _ hJ3
        gi_wp2
        refine ⟨⟨k + 1, hJ3⟩, ?_⟩
        rw [hn3.out, hnx.out, hF.out, hF.out]
        omega
      · gi_wp2
        refine bodyPost_ret (results_none rfl _ _ _) rfl ?_
        exact ⟨⟨_, rfl⟩, .inr hJx⟩

end Go.Proofs.Ytompaldhnbcikaa
