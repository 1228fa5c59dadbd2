/- slices.Clone at vec.Vec; rec's copied. Own work; no statement. -/
import Derived.Test.YtompaldhnbcikaaR5
import Derived.Laws.AppendOwn
set_option linter.unusedSimpArgs false
set_option linter.unusedVariables false
namespace Go.Proofs.Ytompaldhnbcikaa
open Go.RowKit Go.Sort

theorem row_of_nil (w : World) (B : Nat) (e : TypeId) : w.ownsRow B e 1 (.slice none 0 0) 0 [] := World.ownsRow_nil w B e 1

set_option maxHeartbeats 2000000 in
set_option maxRecDepth 100000 in
theorem cloneVec_calls (v : Value) (l : List Int) (w : World) (hv : IsNums .i64 w v l) (hl : l.length ≤ 17592186044416) :
    Calls Try.prog 33 #[v] w fun e w' => ∃ v', e = .returned v' ∧ w'.ownsRow w.heap.size 3 1 v' l.length (l.map (Value.int .i64)) ∧ Below w.heap.size w w' := by
  obtain ⟨i0, hi, hz0, hz1, hz2⟩ := info_parts Try.info3
  have q22 : ∀ (w : World) (a : Option Addr) (n c n' c' : Nat), (binOp .eql 33 (.slice a n c) (.slice none n' c')).run Try.prog w = .ok (.bool a.isNone) w := fun w a n c n' c' => Lib.run_eql_slice_nil w _ _ a n c n' c' Try.underlying33
  obtain ⟨a, cap, rfl, hcap, hcell⟩ := hv
  cases a with
  | none =>
    have hl0 : l = [] := by
      cases l with
      | nil => rfl
      | cons x xs => obtain ⟨b, o, e, -⟩ := hcell 0 (by simp); cases e
    subst hl0
    clear hcell hcap
    go_enter Try.func33, Try.ntmps33
    go_wp2
    go_ret
    exact ⟨_, rfl, World.ownsRow_nil _ _ _ _, Below.refl _ _⟩
  | some ad =>
    have hnews : ∀ j u, (l.map (Value.int .i64))[j]? = some u → (w.alloc (.cells #[] 3)).cell? (ad.add j) = some u := by
      intro j u hj
      have hjl : j < l.length := by have := (List.getElem?_eq_some_iff.1 hj).1; simpa using this
      obtain ⟨b, o, e, hc⟩ := hcell j hjl
      cases e
      rw [Addr.add_lit]
      refine Lib.cell?_alloc_some _ ?_
      rw [hc, ← hj]
      simp [hjl]
    have A := hide hnews
    clear hnews hcell
    go_enter Try.func33, Try.ntmps33
    go_wp2_with (at_builtin; refine wpList_append_own _ rfl _ _ 33 rfl w.heap.size 3 i0 (.int .i64 0) 1 8 Try.underlying33 hi hz0 hz1 hz2 rfl (by decide) _ _ _ rfl (World.ownsRow_made w #[] 0 (Nat.le_refl _) (Nat.zero_le _) rfl) ad l.length cap (l.map (Value.int .i64)) rfl ?qc1 A.out ?qc3 ?qc4 ?qc5 ?qc6 ?_)
    case qc1 => simp
    case qc3 => intro u hu; obtain ⟨x, _, rfl⟩ := List.mem_map.1 hu; rfl
    case qc4 => unfold maxLen; omega
    case qc5 => omega
    case qc6 => simp
    intro v' w1 hown hgrow hnil
    go_wp2
    go_ret
    refine ⟨v', rfl, by simpa using hown, ?_⟩
    exact ((Below.refl _ w).alloc (Nat.le_refl _) _).grown hgrow (by simp) (by intro k hk; simp [Value.ownBlock] at hk; omega)

theorem frozen_at {W : World} {b : Nat} {c : Array Value} {t : TypeId} (h : W.heap[b]? = some (.cells c t (0, 0))) (j : Nat) : W.frozen? ⟨b, j, none⟩ = false := by
  simp [World.frozen?, h]

theorem own_below {W W' : World} {B : Nat} {e : TypeId} {size : Nat} {v : Value} {n : Nat} {xs : List Value} (h : W.ownsRow B e size v n xs) (hB : Below W.heap.size W W') : W'.ownsRow B e size v n xs :=
  ownsRow_of_heap h fun k hk => hB.block k (h.lt k hk).2
theorem keepB {b : Nat} {o : Obj} {W W' : World} (h : W.heap[b]? = some o) (hB : Below W.heap.size W W') : W'.heap[b]? = some o := (hB.block b (Array.getElem?_eq_some_iff.1 h).1).trans h
theorem ltB {b : Nat} {o : Obj} {W : World} (h : W.heap[b]? = some o) : b < W.heap.size := (Array.getElem?_eq_some_iff.1 h).1

def zeroR : RecD := ⟨0, 0, [], ⟨#[]⟩, ⟨#[]⟩⟩

/-- A record by value, with its numbers in memory of its own from block B on. -/
def OwnRec (B : Nat) (w : World) (v : Value) (r : RecD) : Prop :=
  ∃ vd, v = .agg #[.int .i64 r.site, .int .i64 r.seq, vd, .string r.key, .string r.val] ∧ w.ownsRow B 3 1 vd r.dep.length (r.dep.map (Value.int .i64))

theorem OwnRec.isRec {B : Nat} {w : World} {v : Value} {r : RecD} (h : OwnRec B w v r) : IsRec w v r := by
  obtain ⟨vd, rfl, ho⟩ := h
  obtain ⟨a, cap, rfl⟩ := ownsRow_slice ho
  exact ⟨a, cap, rfl, IsNums.of_row ho⟩

end Go.Proofs.Ytompaldhnbcikaa
