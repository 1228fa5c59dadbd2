/- stripe's ended: its sequence; Positions. Own work; no statement. -/
import Derived.Test.YtndhkbmgpjjepaaDoorM8
set_option linter.unusedSimpArgs false
set_option linter.unusedVariables false
namespace Go.Proofs.YtndhkbmgpjjepaaDoor
open Go.RowKit Go.Shelf

attribute [local go_sem] Oper.semAt_some

theorem grown_drew (w : World) : w.grownBy w.drew none := ⟨rfl, rfl, rfl, Nat.le_refl _, fun _ _ _ => rfl⟩
/-- Behind which position the i-th epoch ends, ahead of e. -/
def endM (m : MapD) (e : Int) (i : Nat) : Int := if i + 1 < m.length then min (m.getD (i + 1) (0, 0)).1 e else e
/-- The epochs with their ends. -/
def endedL (m : MapD) (e : Int) : List ((Int × Int) × Int) := (List.range m.length).map fun i => (m.getD i (0, 0), endM m e i)
theorem endedL_length (m : MapD) (e : Int) : (endedL m e).length = m.length := by simp [endedL]
theorem endedL_get (m : MapD) (e : Int) (i : Nat) (h : i < (endedL m e).length) : (endedL m e)[i] = (m.getD i (0, 0), endM m e i) := by simp [endedL]
/-- A span and a number handed over. -/
def encSpan (x : (Int × Int) × Int) : Array Value := #[.agg #[.int .i64 x.1.1, .int .i64 x.1.2], .int .i64 x.2]

set_option maxHeartbeats 1000000 in
theorem ended_calls (a : Option Addr) (n cap : Nat) (e : Int) (w : World) :
    Calls Tryd.prog 33 #[.slice a n cap, .int .i64 e] w fun en w' =>
      en = .returned (.func (.func 39) #[] #[.pointer (some ⟨w.heap.size, 0, none⟩), .pointer (some ⟨w.heap.size + 1, 0, none⟩)]) ∧
      w' = (w.alloc (.cells #[.slice a n cap] 23)).alloc (.cells #[.int .i64 e] 3) := by
  have hmf : ∀ (fn : Fn) (first cap : Array Value) (w : World), (Instr.makeFunc fn first cap).run Tryd.prog w = .ok (.func fn first cap) w := fun _ _ _ _ => rfl
  go_enter Tryd.func33, Tryd.ntmps33
  go_wp2
  go_ret
  exact ⟨rfl, rfl⟩

/-- What ended's sequence goes by: the boxes b, b + 1, and the row. -/
def onEnded (b : Nat) (v : Value) (c : Nat) : Prop := c = b ∨ c = b + 1 ∨ v.ownBlock = some c
structure IsEnded (w : World) (b : Nat) (v : Value) (m : MapD) (e : Int) : Prop where
  bm : Boxed w b 23 v
  be : Boxed w (b + 1) 3 (.int .i64 e)
  row : OwnsM w 0 v m
theorem IsEnded.lt {w : World} {b : Nat} {v : Value} {m : MapD} {e : Int} (h : IsEnded w b v m e) {c : Nat} (hc : onEnded b v c) : c < w.heap.size := by
  rcases hc with rfl | rfl | hc
  · exact h.bm.lt
  · exact h.be.lt
  · exact (h.row.lt c hc).2
theorem IsEnded.keep {w w' : World} {b : Nat} {v : Value} {m : MapD} {e : Int} (h : IsEnded w b v m e) (hk : ∀ c, onEnded b v c → w'.heap[c]? = w.heap[c]?) : IsEnded w' b v m e :=
  ⟨boxed_of_heap h.bm (hk _ (.inl rfl)), boxed_of_heap h.be (hk _ (.inr (.inl rfl))), ownsRow_of_heap h.row fun k e => hk k (.inr (.inr e))⟩

set_option maxRecDepth 100000 in
set_option maxHeartbeats 2000000 in
theorem ended_seq (n : Nat) (hn : 1 ≤ n) (b : Nat) (v : Value) (m : MapD) (e : Int) (w : World) (hd : IsEnded w b v m e) (hl : m.length ≤ 1099511627776) :
    SeqO n Tryd.prog 39 #[.pointer (some ⟨b, 0, none⟩), .pointer (some ⟨b + 1, 0, none⟩)] encSpan (KeepsB (onEnded b v)) (endedL m e) w := by
  intro lp J Jx W hW hJo hY h0
  have hd := hd.keep (w' := W) (fun c hc => hW.block c (hd.lt hc))
  obtain ⟨a, cap, rfl⟩ := ownsRow_slice hd.row
  have cm := hd.bm.cell
  have ce := hd.be.cell
  have HY := hide hY
  have Hd := hide hd
  have HJ := hide hJo
  clear hY hJo hd hW
  refine callsIn_of_wp Tryd.func39 rfl trivial ?_ rfl
  simp only [Tryd.ntmps39, List.size_toArray, List.length_cons, List.length_nil, Nat.reduceAdd, Nat.reduceSub, Array.replicate_succ, Array.replicate_zero, List.push_toArray, List.append_toArray, List.nil_append, List.cons_append]
  gi_wp2
  gi_loopw [9] (fun i wr => ∃ k : Nat, k ≤ m.length ∧ i = .int .i64 (k : Int) ∧ J k wr ∧ KeepsB (onEnded b (.slice a m.length cap)) W wr) (fun i _ => m.length - (intOf i).toNat)
  case atStart => exact ⟨0, Nat.zero_le _, rfl, h0, fun _ _ => rfl⟩
  case round =>
    obtain ⟨k, hk, rfl, hJk, hkp⟩ := hrel
    by_cases hlt : k < m.length
    · have hltI : (k : Int) < (m.length : Int) := by omega
      have hd2 := Hd.out.keep (w' := wr) (fun c hc => hkp c hc)
      have hmap := OwnsM.map hd2.row
      obtain ⟨-, g, o, rfl, hgw, c0, c1⟩ := hmap.at k hlt
      have hy := HY.out k (by rw [endedL_length]; exact hlt)
      rw [endedL_get] at hy
      unfold endM at hy
      generalize hxk : m.getD k (0, 0) = xk at *
      obtain ⟨p, q⟩ := xk
      dsimp only [encSpan] at *
      have hJ2 := HJ.out.alloc (.cells #[.int .i64 p, .int .i64 q] 48) hJk
      have hd3 : IsEnded (wr.alloc (.cells #[.int .i64 p, .int .i64 q] 48)) b (.slice (some ⟨g, o, none⟩) m.length cap) m e := hd2.keep fun c hc => Below.heap_alloc _ _ _ (hd2.lt hc)
      have cm := hd3.bm.cell
      have ce := hd3.be.cell
      have hkp3 : KeepsB (onEnded b (.slice (some ⟨g, o, none⟩) m.length cap)) W (wr.alloc (.cells #[.int .i64 p, .int .i64 q] 48)) := fun c hc => (Below.heap_alloc _ _ _ (hd2.lt hc)).trans (hkp c hc)
      have Hkp := hide hkp3
      have Hd3 := hide hd3
      clear hkp hkp3 hd2 hd3 hmap hJk hxk
      by_cases hnx : k + 1 < m.length
      · have hnxI : (k : Int) + 1 < (m.length : Int) := by omega
        rw [if_pos hnx] at hy
        obtain ⟨-, g2, o2, e2, hgw2, c2, -⟩ := (OwnsM.map Hd3.out.row).at (k + 1) hnx
        cases e2
        generalize (m.getD (k + 1) (0, 0)).1 = f at *
        have hJ3 := HJ.out _ _ _ none hJ2 (grown_drew _) (fun r e => by cases e)
        obtain ⟨fn, tmps, assign, body, hy, hR⟩ := hy _ hJ3
        gi_wp2
        refine wpIn_wide.2 ?_
        go_region
        gi_wp2
        refine hR.mono ?_
        rintro en W3 (⟨rfl, hJ3, hk3⟩ | ⟨rfl, hJx3⟩)
        · gi_wp2
          exact ⟨⟨k + 1, by omega, by go_num, hJ3, keepsB_t Hkp.out hk3⟩, by simp [intOf]; omega⟩
        · gi_wp2
          refine bodyPost_ret (results_none rfl _ _ _) rfl ?_
          exact ⟨⟨_, rfl⟩, .inr ⟨k, by rw [endedL_length]; exact hlt, hJx3⟩⟩
      · have hnxI : ¬ (k : Int) + 1 < (m.length : Int) := by omega
        rw [if_neg hnx] at hy
        obtain ⟨fn, tmps, assign, body, hy, hR⟩ := hy _ hJ2
        gi_wp2
        refine hR.mono ?_
        rintro en W3 (⟨rfl, hJ3, hk3⟩ | ⟨rfl, hJx3⟩)
        · gi_wp2
          exact ⟨⟨k + 1, by omega, by go_num, hJ3, keepsB_t Hkp.out hk3⟩, by simp [intOf]; omega⟩
        · gi_wp2
          refine bodyPost_ret (results_none rfl _ _ _) rfl ?_
          exact ⟨⟨_, rfl⟩, .inr ⟨k, by rw [endedL_length]; exact hlt, hJx3⟩⟩
    · obtain rfl : k = m.length := by omega
      gi_wp2
      go_end0
      exact ⟨⟨_, rfl⟩, .inl (by rw [endedL_length]; exact hJk)⟩

end Go.Proofs.YtndhkbmgpjjepaaDoor
