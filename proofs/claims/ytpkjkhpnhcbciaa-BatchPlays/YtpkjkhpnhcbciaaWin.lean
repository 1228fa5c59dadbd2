/- Windows: a slice of one's own that begins anywhere in its row; a number put behind it. Own work; no statement. -/
import Derived.Test.YtpkjkhpnhcbciaaSetL
import Derived.Maps.AppendAt
import Derived.ArgAppend
set_option linter.unusedSimpArgs false
set_option linter.unusedVariables false
namespace Go.Proofs.Ytpkjkhpnhcbciaa
open Go.RowKit Go.Shelf Go.Sort

/-- A slice of n elements xs, in a block of one's own (from base on), from some place on. -/
def IsWin (w : World) (base : Nat) (e : TypeId) (v : Value) (n : Nat) (xs : List Value) : Prop :=
  xs.length = n ∧ ((v = .slice none 0 0 ∧ n = 0) ∨ ∃ g off cap cur, v = .slice (some ⟨g, off, none⟩) n cap ∧ base ≤ g ∧ w.heap[g]? = some (.cells cur e (0, 0)) ∧ n ≤ cap ∧ cap ≤ maxLen ∧ off + cap ≤ cur.size ∧ ∀ j, j < n → cur[off + j]? = xs[j]?)

section
variable {w : World} {base : Nat} {e : TypeId} {v : Value} {n : Nat} {xs : List Value}

theorem IsWin.nil (w : World) (base : Nat) (e : TypeId) : IsWin w base e (.slice none 0 0) 0 [] := ⟨rfl, .inl ⟨rfl, rfl⟩⟩
theorem IsWin.of_row (h : w.ownsRow base e 1 v n xs) : IsWin w base e v n xs := by
  refine ⟨by simpa using h.1, ?_⟩
  rcases h.2 with ⟨rfl, rfl⟩ | ⟨g, cap, cur, rfl, hb, hg, hnc, hcm, hcs, ht⟩
  · exact .inl ⟨rfl, rfl⟩
  · refine .inr ⟨g, 0, cap, cur, rfl, hb, hg, hnc, hcm, by omega, fun j hj => ?_⟩
    rw [← ht, Nat.zero_add, List.getElem?_take_of_lt (by omega), Array.getElem?_toList]
theorem IsWin.slice (h : IsWin w base e v n xs) : ∃ a cap, v = .slice a n cap := by
  rcases h.2 with ⟨rfl, rfl⟩ | ⟨g, off, cap, cur, rfl, _⟩
  · exact ⟨_, _, rfl⟩
  · exact ⟨_, _, rfl⟩
theorem IsWin.lt (h : IsWin w base e v n xs) : ∀ k, v.ownBlock = some k → base ≤ k ∧ k < w.heap.size := by
  intro k hk
  rcases h.2 with ⟨rfl, _⟩ | ⟨g, off, cap, cur, rfl, hb, hg, _⟩
  · simp [Value.ownBlock] at hk
  · simp [Value.ownBlock] at hk
    subst hk
    exact ⟨hb, ltAt hg⟩
theorem IsWin.of_heap {w' : World} (h : IsWin w base e v n xs) (hk : ∀ k, v.ownBlock = some k → w'.heap[k]? = w.heap[k]?) : IsWin w' base e v n xs := by
  refine ⟨h.1, ?_⟩
  rcases h.2 with hn | ⟨g, off, cap, cur, rfl, hb, hg, rest⟩
  · exact .inl hn
  · exact .inr ⟨g, off, cap, cur, rfl, hb, (hk g rfl).trans hg, rest⟩
theorem IsWin.new {w' : World} (h : IsWin w base e v n xs) (hb : Below w.heap.size w w') : IsWin w' base e v n xs := h.of_heap fun k hk => hb.block k (h.lt k hk).2
theorem IsWin.cellAt (h : IsWin w base e v n xs) (j : Nat) (hj : j < n) : ∃ g off cap, v = .slice (some ⟨g, off, none⟩) n cap ∧ n ≤ cap ∧ w.cell? ⟨g, off + j, none⟩ = xs[j]? := by
  rcases h.2 with ⟨_, rfl⟩ | ⟨g, off, cap, cur, rfl, hb, hg, hnc, hcm, hcs, hx⟩
  · omega
  · exact ⟨g, off, cap, rfl, hnc, (cellsAt hg _).trans (hx j hj)⟩
/-- A window is no block of another type. -/
theorem IsWin.not (h : IsWin w base e v n xs) {b : Nat} {c : Array Value} {t : TypeId} {f : Nat × Nat} (hb : w.heap[b]? = some (.cells c t f)) (ht : t ≠ e) : v.ownBlock ≠ some b := fun he => by
  rcases h.2 with ⟨rfl, _⟩ | ⟨g, off, cap, cur, rfl, _, hg, _⟩
  · cases he
  · obtain rfl : g = b := by simpa [Value.ownBlock] using he
    rw [hb] at hg
    simp only [Option.some.injEq, Obj.cells.injEq] at hg
    exact ht hg.2.1
/-- What v[k:] is. -/
def dropV : Value → Nat → Value
  | .slice a n cap, k => .slice (if cap = k then a else a.map fun x => x.add k) (n - k) (cap - k)
  | v, _ => v
theorem dropV_all (a : Option Addr) (n cap k : Nat) (h : cap = k) : dropV (.slice a n cap) k = .slice a (n - k) (cap - k) := by
  unfold dropV
  dsimp only
  rw [if_pos h]
theorem dropV_some (a : Option Addr) (n cap k : Nat) (h : ¬ cap = k) : dropV (.slice a n cap) k = .slice (a.map fun x => x.add k) (n - k) (cap - k) := by
  unfold dropV
  dsimp only
  rw [if_neg h]
theorem IsWin.drop (h : IsWin w base e v n xs) (k : Nat) (hk : k ≤ n) : IsWin w base e (dropV v k) (n - k) (xs.drop k) ∧ (dropV v k).ownBlock = v.ownBlock := by
  have h1 := h.1
  rcases h.2 with ⟨rfl, rfl⟩ | ⟨g, off, cap, cur, rfl, hb, hg, hnc, hcm, hcs, hx⟩
  · obtain rfl : k = 0 := by omega
    obtain rfl : xs = [] := List.eq_nil_of_length_eq_zero h1
    exact ⟨.nil w base e, rfl⟩
  · have hl : (xs.drop k).length = n - k := by rw [List.length_drop, h1]
    by_cases hkc : cap = k
    · rw [dropV_all _ _ _ _ hkc]
      exact ⟨⟨hl, .inr ⟨g, off, cap - k, cur, rfl, hb, hg, by omega, by omega, by omega, fun j hj => by omega⟩⟩, rfl⟩
    · rw [dropV_some _ _ _ _ hkc]
      refine ⟨⟨hl, .inr ⟨g, off + k, cap - k, cur, ?_, hb, hg, by omega, by omega, by omega, fun j hj => ?_⟩⟩, ?_⟩
      · simp [Addr.add_lit]
      · rw [List.getElem?_drop, Nat.add_assoc, hx (k + j) (by omega)]
      · simp [Addr.add_lit, Value.ownBlock]
end

section
variable {P : Program} (w : World)

/-- One element more. -/
theorem run_append_win (base : Nat) (t ty e : TypeId) (i : TypeInfo) (z : Value) (bytes : Nat) (ht : P.underlying t = some (.slice e)) (hi : P.info? e = some i) (hz : i.zero = some z)
    (hsize : i.size = 1) (hby : i.bytes = bytes) (hzs : z.cells.size = 1)
    (v : Value) (n : Nat) (xs : List Value) (hw : IsWin w base e v n xs)
    (ab ao c : Nat) (x : Value) (hx : w.cell? ⟨ab, ao, none⟩ = some x) (h1 : x.oneCell' = true)
    (h63 : n + 1 ≤ maxLen) (hbytes : (n + 1) * bytes ≤ 140737488355328) (hbase : base ≤ w.heap.size) :
    ∃ v' w', (Builtin.append_ #[t, t] ty #[v, .slice (some ⟨ab, ao, none⟩) 1 c]).run P w = .ok v' w' ∧ IsWin w' base e v' (n + 1) (xs ++ [x]) ∧ w.grownBy w' v.ownBlock ∧ (v'.ownBlock = v.ownBlock ∨ ∀ k, v'.ownBlock = some k → w.heap.size ≤ k) := by
  have hnews : ∀ j u, [x][j]? = some u → w.cell? ((⟨ab, ao, none⟩ : Addr).add j) = some u := by
    intro j u hj
    match j, hj with
    | 0, hj =>
      simp only [List.getElem?_cons_zero, Option.some.injEq] at hj
      subst hj
      rw [Addr.add_lit]
      exact hx
    | j + 1, hj => simp at hj
  have h1' : ∀ u ∈ [x], u.oneCell' = true := fun u hu => by rw [List.mem_singleton.1 hu]; exact h1
  rcases hw.2 with ⟨rfl, rfl⟩ | ⟨g, off, cap, cur, rfl, hbg, hg, hnc, hcm, hcs, hcx⟩
  · have hr0 : w.ownsRow base e 1 (.slice none 0 0) 0 [] := World.ownsRow_nil w base e 1
    obtain rfl : xs = [] := List.eq_nil_of_length_eq_zero hw.1
    obtain ⟨v', w', q1, q2, q3, q4, q5⟩ := run_append_own_at (P := P) w base t ty e i z 1 bytes ht hi hz hsize hby hzs (by decide) _ 0 [] hr0 ⟨ab, ao, none⟩ 1 c [x] (by simp) hnews h1' (by omega) (by omega) hbase
    exact ⟨v', w', q1, .of_row q2, q3, q5.imp id fun e k hk => by rw [e] at hk; cases hk; exact Nat.le_refl _⟩
  · by_cases hroom : n + 1 ≤ cap
    · have hr := run_append_room_cells (P := P) w t ty e i ht hi g off n cap ⟨ab, ao, none⟩ 1 c [x] (by simp [hsize]) hnews h1' hroom
        (fun j hj => by
          obtain rfl : j = 0 := by simpa using hj
          rw [hsize, cellsAt hg]
          rw [Array.getElem?_eq_getElem (show off + n * 1 + 0 < cur.size by omega)]
          rfl) (fun j _ => frozenAt hg _)
      have hset := heap_setCells [x] (off + n * i.size) w cur hg
      refine ⟨_, _, hr, ⟨by simp [hw.1], .inr ⟨g, off, cap, _, rfl, hbg, hset, hroom, hcm, by rw [setL_size]; exact hcs, fun j hj => ?_⟩⟩, ?_, .inl rfl⟩
      · rw [hsize, setL_get _ _ _ _ (by omega)]
        by_cases hjn : j < n
        · rw [if_neg (by omega), List.getElem?_append_left (by rw [hw.1]; exact hjn)]
          exact hcx j hjn
        · obtain rfl : j = n := by omega
          rw [if_pos (by simp), show off + j - (off + j * 1) = 0 by omega, List.getElem?_append_right (by rw [hw.1]; exact Nat.le_refl _), hw.1, Nat.sub_self]
      · have tt := touch_setCells (S := fun k => k = g) rfl [x] (off + n * i.size) w
        exact ⟨tt.os, tt.tape, tt.output, tt.size, fun k hk hne => tt.block k hk fun e => hne (by rw [e]; rfl)⟩
    · obtain ⟨v', w', q1, q2, q3⟩ := run_append_arg_grows (P := P) w t ty e i z 1 bytes ht hi hz hsize hby hzs (by decide) ⟨g, off, none⟩ n cap xs (by rw [hw.1, Nat.mul_one])
        (fun j u hj => by
          have hjn : j < n := by rw [← hw.1]; exact (List.getElem?_eq_some_iff.1 hj).1
          rw [Addr.add_lit, cellsAt hg, hcx j hjn, hj]) ⟨ab, ao, none⟩ 1 c [x] (by simp) hnews (by omega) h63 hbytes
      exact ⟨v', w', q1, .of_row (ownsRow_low q2 hbase), ⟨q3.os, q3.tape, q3.output, q3.size, fun k hk _ => q3.block k hk (by simp)⟩, .inr fun k hk => (q2.lt k hk).1⟩

theorem wpList_append_win {ops : Array Oper} {rest : List Oper} {o : Oper} {a : Act} {Q : Exit → Act → World → Prop} (hgd : o.guard = none) (s x : Operand) (t : TypeId)
    (ho : o.op = .call { callee := .builtin .append, args := #[s, x], argTypes := #[t, t] })
    (base : Nat) (e : TypeId) (i : TypeInfo) (z : Value) (bytes : Nat) (ht : P.underlying t = some (.slice e)) (hi : P.info? e = some i) (hz : i.zero = some z)
    (hsize : i.size = 1) (hby : i.bytes = bytes) (hzs : z.cells.size = 1)
    (v : Value) (n : Nat) (xs : List Value) (hs : a.eval s = v) (hw : IsWin w base e v n xs)
    (ab ao c : Nat) (u : Value) (hx : a.eval x = .slice (some ⟨ab, ao, none⟩) 1 c) (hu : w.cell? ⟨ab, ao, none⟩ = some u) (h1 : u.oneCell' = true)
    (h63 : n + 1 ≤ maxLen) (hbytes : (n + 1) * bytes ≤ 140737488355328) (hbase : base ≤ w.heap.size)
    (h : ∀ v' w', IsWin w' base e v' (n + 1) (xs ++ [u]) → w.grownBy w' v.ownBlock → (v'.ownBlock = v.ownBlock ∨ ∀ k, v'.ownBlock = some k → w.heap.size ≤ k) → wpList P ops Q rest (a.put o.dst v') w') :
    wpList P ops Q (o :: rest) a w := by
  refine wpList_plain hgd fun K hK => ?_
  obtain ⟨v', w', hr, h2, h3, h4⟩ := run_append_win (P := P) w base t o.type e i z bytes ht hi hz hsize hby hzs v n xs hw ab ao c u hu h1 h63 hbytes hbase
  unfold Oper.wp execOp
  simp only [ho, resolve, invoke, builtin, Sem.run_bind, Sem.run_pure, Result.andThen_ok, List.map_toArray, List.map_cons, List.map_nil, hs, hx, hr]
  exact hK _ _ (h v' w' h2 h3 h4)
end

end Go.Proofs.Ytpkjkhpnhcbciaa
