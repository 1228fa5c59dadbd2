/- Own work: the parts M2, M3, M4, M5, M6, RW2 of the proof, laid together. -/
import Derived.Test.YtjbjjfndkpcciaaGreatDoorPartLogStripes11
import Derived.Laws.AppendOwnNone
import Derived.Lib.AppendZeros
import Derived.Deep.LoopGhost
import Derived.Test.YtjbjjfndkpcciaaGreatDoorPartLogStripes2
import Derived.Test.YtjbjjfndkpcciaaGreatDoorPartLogStripes3
import Derived.Test.YtjbjjfndkpcciaaGreatDoorPartLogStripes7
/- stripe's Find. Own work; no statement. -/
set_option linter.unusedSimpArgs false
set_option linter.unusedVariables false
namespace Go.Proofs.YtjbjjfndkpcciaaGreatDoor
open Go.RowKit

theorem okFrom_get : ∀ (m : MapD) (a : Int), okFrom a m = true → ∀ k (h : k < m.length), a ≤ m[k].1 ∧ 1 ≤ m[k].2 ∧ m[k].2 ≤ 8
  | [], _, _, k, h => absurd h (by simp)
  | x :: r, a, hok, k, h => by
    rw [okFrom_cons] at hok
    simp only [Bool.and_eq_true, decide_eq_true_eq] at hok
    cases k with
    | zero => exact ⟨hok.1.1.1, hok.1.1.2, hok.1.2⟩
    | succ k =>
      have h' : k < r.length := by simpa using h
      have := okFrom_get r x.1 hok.2 k h'
      have h1 := hok.1.1.1
      simp only [List.getElem_cons_succ]
      omega
theorem okFrom_sorted : ∀ (m : MapD) (a : Int), okFrom a m = true → ∀ i j (h : i < j) (hj : j < m.length), (m[i]'(by omega)).1 ≤ m[j].1
  | [], _, _, _, j, _, hj => absurd hj (by simp)
  | x :: r, a, hok, i, j, h, hj => by
    rw [okFrom_cons] at hok
    simp only [Bool.and_eq_true, decide_eq_true_eq] at hok
    cases j with
    | zero => omega
    | succ j =>
      have hj' : j < r.length := by simpa using hj
      cases i with
      | zero => exact (okFrom_get r x.1 hok.2 j hj').1
      | succ i => exact okFrom_sorted r x.1 hok.2 i j (by omega) hj'
theorem okMap_pos {m : MapD} (h : okMap m = true) : 0 < m.length := by
  cases m with
  | nil => simp [okMap] at h
  | cons x r => simp
theorem okMap_zero {m : MapD} (h : okMap m = true) : (m[0]'(okMap_pos h)).1 = 0 := by
  cases m with
  | nil => simp [okMap] at h
  | cons x r =>
    simp only [okMap, Bool.and_eq_true, decide_eq_true_eq] at h
    exact h.1
theorem okMap_from {m : MapD} (h : okMap m = true) : okFrom 0 m = true := by
  cases m with
  | nil => rfl
  | cons x r =>
    simp only [okMap, Bool.and_eq_true, decide_eq_true_eq] at h
    exact h.2
theorem okMap_get {m : MapD} (h : okMap m = true) (k : Nat) (hk : k < m.length) : 0 ≤ m[k].1 ∧ 1 ≤ m[k].2 ∧ m[k].2 ≤ 8 := okFrom_get m 0 (okMap_from h) k hk
theorem okMap_sorted {m : MapD} (h : okMap m = true) (i j : Nat) (hij : i < j) (hj : j < m.length) : (m[i]'(by omega)).1 ≤ m[j].1 := okFrom_sorted m 0 (okMap_from h) i j hij hj

/-- Of the first n epochs the last whose From is not above pos, from 1 on. -/
def epochM (m : MapD) (pos : Int) : Nat → Nat
  | 0 => 0
  | n + 1 => if (m.getD n (0, 0)).1 ≤ pos then n + 1 else epochM m pos n
theorem epochM_le (m : MapD) (pos : Int) : ∀ n, epochM m pos n ≤ n
  | 0 => Nat.le_refl _
  | n + 1 => by
    have := epochM_le m pos n
    unfold epochM
    split <;> omega
theorem epochM_pos {m : MapD} {pos : Int} (h : okMap m = true) (h0 : 0 ≤ pos) : ∀ n, 1 ≤ n → 1 ≤ epochM m pos n
  | 1, _ => by
    have := okMap_zero h
    have hp := okMap_pos h
    unfold epochM
    rw [List.getD_eq_getElem?_getD, List.getElem?_eq_getElem hp, Option.getD_some, this, if_pos h0]
    exact Nat.le_refl _
  | n + 2, _ => by
    have := epochM_pos h h0 (n + 1) (by omega)
    unfold epochM
    split <;> omega
theorem epochM_from {m : MapD} {pos : Int} : ∀ n, 1 ≤ epochM m pos n → (m.getD (epochM m pos n - 1) (0, 0)).1 ≤ pos
  | 0, h => absurd h (by simp [epochM])
  | n + 1, h => by
    unfold epochM at h ⊢
    split
    · rename_i hx; simpa using hx
    · rename_i hx
      rw [if_neg hx] at h
      exact epochM_from n h

/-- What Find tells: the epoch, the stripe, the error's number. -/
def findM (m : MapD) (pos : Int) : Int × Int × Int :=
  if 0 ≤ pos ∧ okMap m = true then ((epochM m pos m.length : Nat), (pos - (m.getD (epochM m pos m.length - 1) (0, 0)).1) % (m.getD (epochM m pos m.length - 1) (0, 0)).2, 0) else (0, 0, 1)

theorem IsMap.at {w : World} {a : Option Addr} {n cap : Nat} {m : MapD} (h : IsMap w (.slice a n cap) m) (t : Nat) (ht : t < m.length) : n = m.length ∧ ∃ b o, a = some ⟨b, o, none⟩ ∧ b < w.heap.size ∧ w.cell? ⟨b, o + t * 2, none⟩ = some (.int .i64 (m.getD t (0, 0)).1) ∧ w.cell? ⟨b, o + t * 2 + 1, none⟩ = some (.int .i64 (m.getD t (0, 0)).2) := by
  obtain ⟨a', cap', e, -, hc⟩ := h
  cases e
  obtain ⟨b, o, rfl, c0, c1⟩ := hc t ht
  refine ⟨rfl, b, o, rfl, World.block_lt_of_cell? w _ c0, ?_, ?_⟩
  · rw [c0, List.getD_eq_getElem?_getD, List.getElem?_eq_getElem ht]; rfl
  · rw [c1, List.getD_eq_getElem?_getD, List.getElem?_eq_getElem ht]; rfl
theorem IsMap.slice {w : World} {v : Value} {m : MapD} (h : IsMap w v m) : ∃ a cap, v = .slice a m.length cap := let ⟨a, cap, e, _, _⟩ := h; ⟨a, cap, e⟩

set_option maxHeartbeats 1000000 in
theorem mapFind_calls (v : Value) (m : MapD) (pos : Int) (w : World) (hv : IsMap w v m) (hl : m.length ≤ 1099511627776) (hpos : pos ≤ 9223372036854775807) :
    Calls Tryz.prog 117 #[v, .int .i64 pos] w fun e w' => e = .returned (.tuple #[.int .i64 (findM m pos).1, .int .i64 (findM m pos).2.1, .int .i64 (findM m pos).2.2]) ∧ Below w.heap.size w w' := by
  have C := hide (mapCheck_calls v m w hv hl)
  have Hv := hide hv
  obtain ⟨a, cap, rfl⟩ := hv.slice
  clear hv
  obtain ⟨r, hr⟩ : ∃ r, findM m pos = r := ⟨_, rfl⟩
  rw [hr]
  by_cases h0 : pos < 0
  · obtain rfl : r = (0, 0, 1) := by rw [← hr, findM, if_neg (by omega)]
    go_enter Tryz.func117, Tryz.ntmps117
    go_wp2
    go_ret3
    exact ⟨rfl, Below.refl _ _⟩
  · by_cases hok : okMap m = true
    · have hc0 : checkM m = 0 := by rw [checkM, if_pos hok]
      rw [hc0] at C
      have he := epochM_pos (pos := pos) hok (by omega) m.length (okMap_pos hok)
      have hel := epochM_le m pos m.length
      have hfr := epochM_from (m := m) (pos := pos) m.length he
      have hN := okMap_get hok (epochM m pos m.length - 1) (by omega)
      rw [findM, if_pos ⟨by omega, hok⟩] at hr
      obtain ⟨E, hE⟩ : ∃ E, epochM m pos m.length = E := ⟨_, rfl⟩
      rw [hE] at hr he hel hfr
      have hgE : m.getD (E - 1) (0, 0) = m[E - 1]'(by omega) := by rw [List.getD_eq_getElem?_getD, List.getElem?_eq_getElem (by omega)]; rfl
      have hN2 : 0 ≤ (m.getD (E - 1) (0, 0)).1 ∧ 1 ≤ (m.getD (E - 1) (0, 0)).2 := by
        rw [hgE]
        have := okMap_get hok (E - 1) (by omega)
        exact ⟨this.1, this.2.1⟩
      have HE := hide hE
      clear hN hgE hE
      go_enter Tryz.func117, Tryz.ntmps117
      go_wp2_with (go_at_call 86; refine C.out.mono ?_; rintro e w1 ⟨rfl, hB1⟩)
      have hs1 := hB1.size
      go_loop [4] (fun ep => ∃ j : Nat, ep = .int .i64 (j : Int) ∧ E ≤ j ∧ j ≤ m.length ∧ epochM m pos j = E) (fun ep => (intOf ep).toNat)
      case atStart => exact ⟨m.length, rfl, hel, Nat.le_refl _, HE.out⟩
      case round =>
        obtain ⟨j, rfl, hj1, hj2, hj3⟩ := hrel
        obtain ⟨j, rfl⟩ : ∃ i, j = i + 1 := ⟨j - 1, by omega⟩
        obtain ⟨-, b, o, rfl, hbw, c0, c1⟩ := Hv.out.at j (by omega)
        replace c0 : w1.cell? ⟨b, o + j * 2, none⟩ = _ := (hB1.cell (p := ⟨b, o + j * 2, none⟩) hbw).trans c0
        replace c1 : w1.cell? ⟨b, o + j * 2 + 1, none⟩ = _ := (hB1.cell (p := ⟨b, o + j * 2 + 1, none⟩) hbw).trans c1
        unfold epochM at hj3
        by_cases hle : (m.getD j (0, 0)).1 ≤ pos
        · rw [if_pos hle] at hj3
          subst hj3
          simp only [Nat.add_sub_cancel] at hr hfr hN2
          generalize m.getD j (0, 0) = x at *
          obtain ⟨F, Nn⟩ := x
          dsimp only at *
          subst hr
          have hgt : ¬ F > pos := by omega
          have hN0 : ¬ Nn = 0 := by omega
          have hN0' : (Nn == 0) = false := by rw [beq_eq_false_iff_ne]; exact hN0
          have hbb : b < w1.heap.size := by omega
          have c2 : (w1.alloc (.cells #[.int .i64 F, .int .i64 Nn] 118)).cell? ⟨w1.heap.size, 0, none⟩ = some (.int .i64 F) := by simp
          go_wp2
          go_region
          go_wp2
          go_ret3
          exact ⟨by simp, (hB1.alloc hB1.size _).drew⟩
        · rw [if_neg hle] at hj3
          generalize (m.getD j (0, 0)).1 = F at *
          have hgt : F > pos := by omega
          have hle2 := epochM_le m pos j
          go_wp2
          exact ⟨⟨j, rfl, by omega, by omega, hj3⟩, by simp [intOf]⟩
    · have hc0 : checkM m = 1 := by rw [checkM, if_neg hok]
      rw [hc0] at C
      obtain rfl : r = (0, 0, 1) := by rw [← hr, findM, if_neg (fun h => hok h.2)]
      go_enter Tryz.func117, Tryz.ntmps117
      go_wp2_with (go_at_call 86; refine C.out.mono ?_; rintro e w1 ⟨rfl, hB1⟩)
      go_ret3
      exact ⟨rfl, hB1⟩

end Go.Proofs.YtjbjjfndkpcciaaGreatDoor

/- Maps in rows of one's own: slices.Clone, Grow, Concat at them; stripe's Add. Own work; no statement. -/
set_option linter.unusedSimpArgs false
set_option linter.unusedVariables false
namespace Go.Proofs.YtjbjjfndkpcciaaGreatDoor
open Go.RowKit Go.Shelf

/-- A map's numbers, one behind the other. -/
def cellsM (m : MapD) : List Value := m.flatMap fun x => [.int .i64 x.1, .int .i64 x.2]
theorem cellsM_cons (x : Int × Int) (m : MapD) : cellsM (x :: m) = .int .i64 x.1 :: .int .i64 x.2 :: cellsM m := rfl
theorem cellsM_append (a b : MapD) : cellsM (a ++ b) = cellsM a ++ cellsM b := by simp [cellsM]
theorem cellsM_length : ∀ m : MapD, (cellsM m).length = m.length * 2
  | [] => rfl
  | x :: m => by rw [cellsM_cons]; simp [cellsM_length m]; omega
theorem cellsM_get : ∀ (m : MapD) (t : Nat) (h : t < m.length), (cellsM m)[t * 2]? = some (.int .i64 m[t].1) ∧ (cellsM m)[t * 2 + 1]? = some (.int .i64 m[t].2)
  | [], t, h => absurd h (by simp)
  | x :: m, 0, _ => ⟨rfl, rfl⟩
  | x :: m, t + 1, h => by
    have := cellsM_get m t (by simpa using h)
    rw [cellsM_cons, show (t + 1) * 2 = t * 2 + 1 + 1 by omega]
    simpa using this
theorem cellsM_one (m : MapD) : ∀ u ∈ cellsM m, u.oneCell' = true := by
  intro u hu
  simp only [cellsM, List.mem_flatMap, List.mem_cons, List.not_mem_nil, or_false] at hu
  obtain ⟨x, _, rfl | rfl⟩ := hu <;> rfl

/-- The slice v is a row of one's own that holds the map m. -/
abbrev OwnsM (w : World) (B : Nat) (v : Value) (m : MapD) : Prop := w.ownsRow B 118 2 v m.length (cellsM m)
theorem OwnsM.map {w : World} {B : Nat} {v : Value} {m : MapD} (h : OwnsM w B v m) : IsMap w v m := by
  rcases h.2 with ⟨rfl, h0⟩ | ⟨g, cap, cur, rfl, hb, hg, hnc, hcm, hcs, ht⟩
  · obtain rfl : m = [] := List.eq_nil_of_length_eq_zero h0
    exact IsMap.nil w
  · refine ⟨_, cap, rfl, (fun e => by cases e), fun t ht' => ⟨g, 0, rfl, ?_, ?_⟩⟩
    · rw [Nat.zero_add, h.cellAt _ (by omega)]
      exact (cellsM_get m t ht').1
    · rw [Nat.zero_add, h.cellAt _ (by omega)]
      exact (cellsM_get m t ht').2
/-- What lies where a slice says, nil too. -/
def SrcM (w : World) (vx : Value) (m : Nat) (news : List Value) : Prop := (vx = .slice none 0 0 ∧ m = 0 ∧ news = []) ∨ ∃ ad c, vx = .slice (some ad) m c ∧ ∀ j u, news[j]? = some u → w.cell? (ad.add j) = some u
theorem IsMap.src {w : World} {v : Value} {m : MapD} (h : IsMap w v m) : SrcM w v m.length (cellsM m) := by
  obtain ⟨a, cap, rfl, h0, hc⟩ := h
  cases a with
  | none =>
    have e : m = [] := by
      cases m with
      | nil => rfl
      | cons x r =>
        obtain ⟨b, o, e, _⟩ := hc 0 (by simp)
        cases e
    subst e
    rw [h0 rfl]
    exact .inl ⟨rfl, rfl, rfl⟩
  | some ad =>
    refine .inr ⟨ad, cap, rfl, fun j u hj => ?_⟩
    have hjl : j < m.length * 2 := by rw [← cellsM_length]; exact (List.getElem?_eq_some_iff.1 hj).1
    obtain ⟨b, o, e, c0, c1⟩ := hc (j / 2) (by omega)
    cases e
    obtain ⟨g0, g1⟩ := cellsM_get m (j / 2) (by omega)
    rw [Addr.add_lit]
    rcases Nat.mod_two_eq_zero_or_one j with h | h
    · have e : j / 2 * 2 = j := by omega
      rw [e] at g0 c0
      rw [c0, ← hj, g0]
    · have e : j / 2 * 2 + 1 = j := by omega
      rw [Nat.add_assoc, e] at c1
      rw [e] at g1
      rw [c1, ← hj, g1]
theorem wpList_append_srcM {P : Program} {w : World} {ops : Array Oper} {rest : List Oper} {o : Oper} {a : Act} {Q : Exit → Act → World → Prop} (hgd : o.guard = none) (s x : Operand) (t : TypeId)
    (ho : o.op = .call { callee := .builtin .append, args := #[s, x], argTypes := #[t, t] })
    (base : Nat) (e : TypeId) (i : TypeInfo) (z : Value) (size bytes : Nat) (ht : P.underlying t = some (.slice e)) (hi : P.info? e = some i) (hz : i.zero = some z)
    (hsize : i.size = size) (hby : i.bytes = bytes) (hzs : z.cells.size = size) (hsz : 0 < size)
    (v : Value) (n : Nat) (xs : List Value) (hs : a.eval s = v) (hown : w.ownsRow base e size v n xs)
    (vx : Value) (m : Nat) (news : List Value) (hx : a.eval x = vx) (hsrc : SrcM w vx m news) (hl : news.length = m * size) (h1 : ∀ u ∈ news, u.oneCell' = true)
    (h63 : n + m ≤ maxLen) (hbytes : (n + m) * bytes ≤ 140737488355328) (hbase : base ≤ w.heap.size)
    (h : ∀ v' w', w'.ownsRow base e size v' (n + m) (xs ++ news) → w.grownBy w' v.ownBlock → wpList P ops Q rest (a.put o.dst v') w') : wpList P ops Q (o :: rest) a w := by
  rcases hsrc with ⟨rfl, rfl, rfl⟩ | ⟨ad, c, rfl, hc⟩
  · refine wpList_append_own_none hgd s x t ho base e i size ht hi v n xs hs hown hx (h v w (by rw [List.append_nil]; exact hown) (World.grownBy.refl _ _))
  · exact wpList_append_own w hgd s x t ho base e i z size bytes ht hi hz hsize hby hzs hsz v n xs hs hown ad m c news hx hl hc h1 h63 hbytes hbase fun v' w' h2 h3 _ => h v' w' h2 h3

theorem Tryz.info118 : (Tryz.prog.info? 118).map (fun i => (i.zero, i.size, i.bytes)) = some (some (.agg #[.int .i64 0, .int .i64 0]), 2, 16) := by kernel_rfl

theorem mapGrow_calls (n : Nat) (h0 : 0 < n) (hn : n ≤ 1099511627776) (w : World) :
    Calls Tryz.prog 147 #[.slice none 0 0, .int .i64 (n : Int)] w fun e w' => ∃ v', e = .returned v' ∧ OwnsM w' w.heap.size v' [] ∧ Below w.heap.size w w' := by
  obtain ⟨i0, hi0, hz0, hz1, hz2⟩ := info_parts Tryz.info118
  have hrz : ∀ ty, (Builtin.append_ #[75, 3] ty #[.slice none 0 0, .int .i64 (n : Int)]).run Tryz.prog w = _ := fun ty =>
    Lib.run_append_nil_zeros w 75 3 ty 118 i0 _ .i64 .i64 Tryz.underlying75 Tryz.underlying3 hi0 hz0 n h0 (by omega) (by omega) (by rw [hz2]; omega)
  obtain ⟨G, hG⟩ : ∃ G, G = grownCap w n 0 118 := ⟨_, rfl⟩
  rw [← hG] at hrz
  have hGn : n ≤ G := by rw [hG]; exact grownCap_ge w _ _ _
  have hGm : G ≤ maxLen := by rw [hG]; exact grownCap_le_maxLen w n 0 118 (by unfold maxLen; omega)
  have hG63 : G ≤ 9223372036854775807 := by unfold maxLen at hGm; omega
  obtain ⟨ROW, hROW⟩ : ∃ ROW : Array Value, ROW = Builtin.zeroCells (Value.agg #[.int .i64 0, .int .i64 0]).cells n ++ Builtin.zeroCells (Value.agg #[.int .i64 0, .int .i64 0]).cells (G - n) := ⟨_, rfl⟩
  rw [← hROW] at hrz
  have hRl : ROW.size = G * 2 := by
    rw [hROW]
    simp [Builtin.zeroCells, Value.cells]
    omega
  obtain ⟨W1, hW1⟩ : ∃ W1, W1 = w.drew.alloc (.cells ROW 118) := ⟨_, rfl⟩
  rw [← hW1] at hrz
  have hb1 : W1.heap[w.heap.size]? = some (.cells ROW 118 (0, 0)) := by rw [hW1]; exact World.alloc_heap_new w.drew _
  have hB1 : Below w.heap.size w W1 := by rw [hW1]; exact ((Below.refl _ w).drew).alloc (Nat.le_refl _) _
  have hGnI : ¬ (n : Int) < 0 := by omega
  have h0I : (n : Int) > 0 := by omega
  clear hG hROW hW1
  go_enter Tryz.func147, Tryz.ntmps147
  go_wp2_with (at_builtin; refine Lib.wpList_append_run _ rfl _ _ 75 3 rfl _ _ rfl rfl _ _ (hrz _) ?_)
  go_ret
  exact ⟨_, rfl, ⟨rfl, .inr ⟨w.heap.size, G, ROW, rfl, Nat.le_refl _, hb1, Nat.zero_le _, hGm, hRl, by simp [cellsM]⟩⟩, hB1⟩

set_option maxHeartbeats 2000000 in
set_option maxRecDepth 100000 in
theorem mapConcat_calls (va vb : Value) (x y : MapD) (b : Nat) (w : World) (ha : IsMap w va x) (hb : IsMap w vb y) (h0 : 0 < x.length + y.length) (hl : x.length + y.length ≤ 1099511627776) (hc0 : w.cell? ⟨b, 0, none⟩ = some va) (hc1 : w.cell? ⟨b, 1, none⟩ = some vb) :
    Calls Tryz.prog 85 #[.slice (some ⟨b, 0, none⟩) 2 2] w fun e w' => ∃ v', e = .returned v' ∧ OwnsM w' w.heap.size v' (x ++ y) ∧ Below w.heap.size w w' := by
  obtain ⟨i0, hi0, hz0, hz1, hz2⟩ := info_parts Tryz.info118
  have Ha := hide ha
  have Hb := hide hb
  obtain ⟨aa, ca, rfl⟩ := ha.slice
  obtain ⟨ab, cb, rfl⟩ := hb.slice
  clear ha hb
  have hbw : b < w.heap.size := World.block_lt_of_cell? w _ hc0
  have hs1 : ¬ ((x.length : Int) < 0) := by omega
  have hs2 : ¬ ((x.length : Int) + (y.length : Int) < 0) := by omega
  have G := hide (mapGrow_calls (x.length + y.length) h0 hl w)
  rw [show ((x.length + y.length : Nat) : Int) = (x.length : Int) + (y.length : Int) by omega] at G
  go_enter Tryz.func85, Tryz.ntmps85
  go_wp2
  refine wp_loop_rounds 3 ?_
  rw [rounds_succ]
  go_wp2
  rw [rounds_succ]
  go_wp2
  rw [rounds_succ]
  go_wp2_with (go_at_call 147; refine G.out.mono ?_; rintro e w1 ⟨v1, rfl, hown1, hB1⟩)
  have d0 : w1.cell? ⟨b, 0, none⟩ = _ := (hB1.cell (p := ⟨b, 0, none⟩) hbw).trans hc0
  have d1 : w1.cell? ⟨b, 1, none⟩ = _ := (hB1.cell (p := ⟨b, 1, none⟩) hbw).trans hc1
  have hbs1 := hB1.size
  have Sa := hide (Ha.out.below hB1).src
  clear hc0 hc1 G
  refine wp_loop_rounds 3 ?_
  rw [rounds_succ]
  go_wp2_with (at_builtin; refine wpList_append_srcM rfl _ _ 75 rfl w.heap.size 118 i0 _ 2 16 Tryz.underlying75 hi0 hz0 hz1 hz2 rfl (by decide) _ _ _ rfl hown1 _ x.length (cellsM x) rfl Sa.out (cellsM_length x) (cellsM_one x) (by unfold maxLen; simp; omega) (by simp; omega) hbs1 ?_; intro v2 w2 hown2 hgrow2; clear Sa)
  have hB2 : Below w.heap.size w w2 := hB1.grown hgrow2 hB1.size (fun k hk => (hown1.lt k hk).1)
  have hbs2 := hB2.size
  have e0 : w2.cell? ⟨b, 0, none⟩ = _ := (hB2.cell (p := ⟨b, 0, none⟩) hbw).trans ((hB1.cell (p := ⟨b, 0, none⟩) hbw).symm.trans d0)
  have e1 : w2.cell? ⟨b, 1, none⟩ = _ := (hB2.cell (p := ⟨b, 1, none⟩) hbw).trans ((hB1.cell (p := ⟨b, 1, none⟩) hbw).symm.trans d1)
  have Sb := hide (Hb.out.below hB2).src
  rw [show ([] : MapD).length + x.length = x.length by simp, show cellsM [] ++ cellsM x = cellsM x from rfl] at hown2
  clear d0 d1 hown1 hgrow2
  rw [rounds_succ]
  go_wp2_with (at_builtin; refine wpList_append_srcM rfl _ _ 75 rfl w.heap.size 118 i0 _ 2 16 Tryz.underlying75 hi0 hz0 hz1 hz2 rfl (by decide) _ _ _ rfl hown2 _ y.length (cellsM y) rfl Sb.out (cellsM_length y) (cellsM_one y) (by unfold maxLen; omega) (by omega) hbs2 ?_; intro v3 w3 hown3 hgrow3; clear Sb)
  have hB3 : Below w.heap.size w w3 := hB2.grown hgrow3 hB2.size (fun k hk => (hown2.lt k hk).1)
  clear hgrow3
  rw [rounds_succ]
  go_wp2
  go_ret
  exact ⟨_, rfl, by rw [OwnsM, List.length_append, cellsM_append]; exact hown3, hB3⟩

/-- A map with a span more, and Check's number of it; refused: none. -/
def addM (m : MapD) (from_ n : Int) : MapD := if okMap (m ++ [(from_, n)]) then m ++ [(from_, n)] else []

set_option maxHeartbeats 2000000 in
set_option maxRecDepth 100000 in
theorem mapAdd_calls (v : Value) (m : MapD) (f n : Int) (w : World) (hv : IsMap w v m) (hl : m.length + 1 ≤ 1099511627776) :
    Calls Tryz.prog 38 #[v, .int .i64 f, .int .i64 n] w fun e w' => ∃ v', e = .returned (.tuple #[v', .int .i64 (checkM (m ++ [(f, n)]))]) ∧ OwnsM w' w.heap.size v' (addM m f n) ∧ Below w.heap.size w w' := by
  obtain ⟨a, cap, rfl⟩ := hv.slice
  obtain ⟨w0, hw0⟩ : ∃ w0, (w.alloc (.cells #[.int .i64 f, .int .i64 n] 118)).alloc (.cells #[.slice a m.length cap, .slice (some ⟨w.heap.size, 0, none⟩) 1 1] 75) = w0 := ⟨_, rfl⟩
  have hB0 : Below w.heap.size w w0 := by rw [← hw0]; exact ((Below.refl _ w).alloc (Nat.le_refl _) _).alloc (by simp) _
  have hs0 : w0.heap.size = w.heap.size + 2 := by rw [← hw0]; simp
  have hb0 : w0.heap[w.heap.size]? = some (.cells #[.int .i64 f, .int .i64 n] 118 (0, 0)) := by
    rw [← hw0]
    exact (Below.heap_alloc _ _ _ (by simp)).trans (World.alloc_heap_new w _)
  have hb1 : w0.heap[w.heap.size + 1]? = some (.cells #[.slice a m.length cap, .slice (some ⟨w.heap.size, 0, none⟩) 1 1] 75 (0, 0)) := by
    rw [← hw0]
    have := World.alloc_heap_new (w.alloc (.cells #[.int .i64 f, .int .i64 n] 118)) (.cells #[.slice a m.length cap, .slice (some ⟨w.heap.size, 0, none⟩) 1 1] 75)
    rwa [World.size_alloc] at this
  have hy : IsMap w0 (.slice (some ⟨w.heap.size, 0, none⟩) 1 1) [(f, n)] := ⟨_, 1, rfl, (fun e => by cases e), fun t ht => by
    have e : t = 0 := by simpa using ht
    subst e
    exact ⟨w.heap.size, 0, rfl, by simpa using cellsAt hb0 0, by simpa using cellsAt hb0 1⟩⟩
  have C := hide (mapConcat_calls _ _ m [(f, n)] (w.heap.size + 1) w0 (hv.below hB0) hy (by simp) (by simpa using hl) (by simpa using cellsAt hb1 0) (by simpa using cellsAt hb1 1))
  have Hw := hide hw0
  clear hv hw0 hb0 hb1 hy
  obtain ⟨L, hL⟩ : ∃ L, m ++ [(f, n)] = L := ⟨_, rfl⟩
  have hLl : L.length ≤ 1099511627776 := by rw [← hL]; simpa using hl
  unfold addM
  rw [hL] at C ⊢
  clear hL hl
  by_cases hok : okMap L = true
  · have hc0 : checkM L = 0 := by rw [checkM, if_pos hok]
    rw [if_pos hok, hc0]
    go_enter Tryz.func38, Tryz.ntmps38
    go_wp2_with fail
    rw [Hw.out]
    refine C.out.mono ?_
    rintro e w1 ⟨v1, rfl, hown1, hB1⟩
    have K := hide (mapCheck_calls _ L w1 (OwnsM.map hown1) (by omega))
    obtain ⟨a1, cap1, rfl⟩ := ownsRow_slice hown1
    rw [hc0] at K
    clear C Hw
    go_wp2_with (go_at_call 86; refine K.out.mono ?_; rintro e w2 ⟨rfl, hB2⟩)
    go_ret2
    exact ⟨_, rfl, ownsRow_low (ownsRow_of_heap hown1 fun k e => hB2.block k (hown1.lt k e).2) (by omega), (hB0.trans (hB1.mono hB0.size)).trans (hB2.mono (hB0.trans (hB1.mono hB0.size)).size)⟩
  · have hc0 : checkM L = 1 := by rw [checkM, if_neg hok]
    rw [if_neg hok, hc0]
    go_enter Tryz.func38, Tryz.ntmps38
    go_wp2_with fail
    rw [Hw.out]
    refine C.out.mono ?_
    rintro e w1 ⟨v1, rfl, hown1, hB1⟩
    have K := hide (mapCheck_calls _ L w1 (OwnsM.map hown1) (by omega))
    obtain ⟨a1, cap1, rfl⟩ := ownsRow_slice hown1
    rw [hc0] at K
    clear C Hw
    go_wp2_with (go_at_call 86; refine K.out.mono ?_; rintro e w2 ⟨rfl, hB2⟩)
    go_ret2
    exact ⟨_, rfl, World.ownsRow_nil _ _ _ _, (hB0.trans (hB1.mono hB0.size)).trans (hB2.mono (hB0.trans (hB1.mono hB0.size)).size)⟩

end Go.Proofs.YtjbjjfndkpcciaaGreatDoor

/- stripe's Text. Own work; no statement. -/
set_option linter.unusedSimpArgs false
set_option linter.unusedVariables false
namespace Go.Proofs.YtjbjjfndkpcciaaGreatDoor
open Go.RowKit Go.Shelf

/-- A span in words. -/
def spanB (x : Int × Int) : List UInt8 := Lib.itoa x.1 ++ ([47] ++ Lib.itoa x.2)
/-- The first k spans in words, with blanks between. -/
def spansTo (m : MapD) : Nat → List UInt8
  | 0 => []
  | k + 1 => spansTo m k ++ ((if k = 0 then [] else [32]) ++ spanB (m.getD k (0, 0)))
/-- A map in words. -/
def textM (m : MapD) : List UInt8 := spansTo m m.length

theorem getD_mapR {m : MapD} (h : MapR m) (k : Nat) : (-9223372036854775808 ≤ (m.getD k (0, 0)).1 ∧ (m.getD k (0, 0)).1 ≤ 9223372036854775807) ∧ (-9223372036854775808 ≤ (m.getD k (0, 0)).2 ∧ (m.getD k (0, 0)).2 ≤ 9223372036854775807) := by
  by_cases hk : k < m.length
  · rw [List.getD_eq_getElem?_getD, List.getElem?_eq_getElem hk]
    exact h _ (List.getElem_mem hk)
  · rw [List.getD_eq_getElem?_getD, List.getElem?_eq_none (by omega)]
    simp

theorem spanB_length {x : Int × Int} (h : (-9223372036854775808 ≤ x.1 ∧ x.1 ≤ 9223372036854775807) ∧ (-9223372036854775808 ≤ x.2 ∧ x.2 ≤ 9223372036854775807)) : (spanB x).length ≤ 43 := by
  have h1 := Lib.itoa_length_le x.1 h.1.1 h.1.2
  have h2 := Lib.itoa_length_le x.2 h.2.1 h.2.2
  simp only [spanB, List.length_append, List.length_cons, List.length_nil]
  omega
theorem spansTo_length {m : MapD} (h : MapR m) : ∀ k, (spansTo m k).length ≤ 44 * k
  | 0 => by simp [spansTo]
  | k + 1 => by
    have h1 := spansTo_length h k
    have h2 := spanB_length (getD_mapR h k)
    have h3 : ((if k = 0 then [] else [32] : List UInt8)).length ≤ 1 := by split <;> simp
    simp only [spansTo, List.length_append]
    omega
theorem len_snoc (l : List UInt8) (c : UInt8) : (l ++ [c]).length = l.length + 1 := by simp
theorem snoc47 (l : List UInt8) : Lib.byteCells l ++ [.int .u8 47] = Lib.byteCells (l ++ [47]) := by simp [Lib.byteCells]

/-- What is no row of e's lies as it lay when a row of e's grows. -/
theorem kept_row {W W' : World} {B : Nat} {e : TypeId} {s : Nat} {v : Value} {n : Nat} {xs : List Value} {k : Nat} {o : Obj} (hown : W.ownsRow B e s v n xs) (hg : W.grownBy W' v.ownBlock) (hk : W.heap[k]? = some o) (ho : ∀ c fz, o ≠ .cells c e fz) : W'.heap[k]? = some o :=
  (Lib.OthersKept.refl e none W).grown hg (fun g hg' => by
    rcases hown.2 with ⟨rfl, _⟩ | ⟨g', cap, cur, rfl, _, h, _⟩
    · cases hg'
    · cases hg'
      exact ⟨_, _, h⟩) k o hk (fun e => by cases e) ho
theorem notU8 {x y : Value} : ∀ c fz, Obj.cells #[x, y] 118 (0, 0) ≠ .cells c 5 fz := fun c fz e => by
  simp only [Obj.cells.injEq] at e
  exact absurd e.2.1 (by decide)
theorem app_u8 {W W0 w1 : World} {B : Nat} {v : Value} {L : List UInt8} {k : Nat} {o : Obj} (hB : Below B W0 W) (hBs : B ≤ W.heap.size) (hown : W.ownsRow B 5 1 v L.length (Lib.byteCells L)) (hk : W.heap[k]? = some o) (ho : ∀ c fz, o ≠ .cells c 5 fz) (x : Value) (hgrow : (W.alloc (.cells #[x] 5)).grownBy w1 v.ownBlock) : Below B W0 w1 ∧ w1.heap[k]? = some o := by
  have hown' := World.ownsRow.alloc hown (.cells #[x] 5)
  exact ⟨(hB.alloc hBs _).grown hgrow (by simp; omega) (fun j hj => (hown.lt j hj).1), kept_row hown' hgrow ((Below.heap_alloc _ _ _ (ltAt hk)).trans hk) ho⟩

set_option maxHeartbeats 2000000 in
set_option maxRecDepth 20000 in
theorem mapText_calls (v : Value) (m : MapD) (w : World) (hv : IsMap w v m) (hl : m.length ≤ 4294967296) (hr : MapR m) (hp : Pow w) :
    Calls Tryz.prog 138 #[v] w fun e w' => e = .returned (.string ⟨(textM m).toArray⟩) ∧ Below w.heap.size w w' := by
  obtain ⟨i0, hi, hz0, hz1, hz2⟩ := info_parts Tryz.info5
  have Hv := hide hv
  obtain ⟨a, cap, rfl⟩ := hv.slice
  have HR := hide hr
  have HP := hide hp
  clear hv hr hp
  go_enter Tryz.func138, Tryz.ntmps138
  go_wp2_with fail
  go_loopw [3, 8] (fun v i wr => ∃ k : Nat, i = .int .i64 (k : Int) ∧ k ≤ m.length ∧ wr.ownsRow w.heap.size 5 1 v (spansTo m k).length (Lib.byteCells (spansTo m k)) ∧ Below w.heap.size w wr) (fun _ i _ => m.length - (intOf i).toNat)
  case atStart => exact ⟨0, rfl, Nat.zero_le _, World.ownsRow_nil _ _ _ _, Below.refl _ _⟩
  case round =>
    obtain ⟨k, rfl, hkn, hown, hB⟩ := hrel
    have hnl := spansTo_length HR.out k
    have hbs := hB.size
    by_cases hk : k < m.length
    · have hlt : (k : Int) < (m.length : Int) := by omega
      obtain ⟨-, b, o, rfl, hbw, c0, c1⟩ := Hv.out.at k hk
      replace c0 : wr.cell? ⟨b, o + k * 2, none⟩ = _ := (hB.cell (p := ⟨b, o + k * 2, none⟩) hbw).trans c0
      replace c1 : wr.cell? ⟨b, o + k * 2 + 1, none⟩ = _ := (hB.cell (p := ⟨b, o + k * 2 + 1, none⟩) hbw).trans c1
      have hxr := getD_mapR HR.out k
      have hsucc : spansTo m (k + 1) = spansTo m k ++ ((if k = 0 then [] else [32]) ++ spanB (m.getD k (0, 0))) := rfl
      generalize m.getD k (0, 0) = x at *
      obtain ⟨p, q⟩ := x
      dsimp only at *
      obtain ⟨L, hL⟩ : ∃ L, spansTo m k = L := ⟨_, rfl⟩
      rw [hL] at hown hnl hsucc
      unfold spanB at hsucc
      have hpl := Lib.itoa_length_le p hxr.1.1 hxr.1.2
      have hql := Lib.itoa_length_le q hxr.2.1 hxr.2.2
      have Hsucc := hide hsucc
      have Hxr := hide hxr
      clear hsucc hL hxr Hv HR
      have hwa := World.alloc_heap_new wr (.cells #[.int .i64 p, .int .i64 q] 118)
      have hBa : Below w.heap.size w (wr.alloc (.cells #[.int .i64 p, .int .i64 q] 118)) := hB.alloc hB.size _
      have howna := World.ownsRow.alloc hown (.cells #[.int .i64 p, .int .i64 q] 118)
      have hsa : (wr.alloc (.cells #[.int .i64 p, .int .i64 q] 118)).heap.size = wr.heap.size + 1 := by simp
      have hsb : w.heap.size ≤ (wr.alloc (.cells #[.int .i64 p, .int .i64 q] 118)).heap.size := by omega
      by_cases hk0 : k = 0
      · have hk1 : ¬ 0 < (k : Int) := by omega
        rw [if_pos hk0] at Hsucc
        have Hk0 := hide hk0
        clear hk0
        go_wp2_with (first | (go_at_call 188; refine (Tryz.strconv_AppendInt_10 w.heap.size _ p Hxr.out.1.1 Hxr.out.1.2 _ _ _ howna hsb (by (try simp only [List.length_append, List.length_cons, List.length_nil]); omega) (Lib.TabBelow.on HP.out hBa)).mono ?_; rintro e w1 ⟨v1, rfl, hown1, hT1, hO1⟩; rw [← Lib.byteCells_append, ← List.length_append] at hown1; have hB1 : Below w.heap.size w w1 := hBa.trans hT1; have hs1 := hB1.size; have hw1 := hO1 _ _ hwa (fun e => by cases e) notU8; have d1 := cellsAt hw1 0; have e1 := cellsAt hw1 1; simp only [List.getElem?_toArray, List.getElem?_cons_zero, List.getElem?_cons_succ] at d1 e1; clear howna hT1 hO1) | (at_builtin; refine wpList_append_own _ rfl (.tmp 22) _ 44 rfl w.heap.size 5 i0 (.int .u8 0) 1 1 Tryz.underlying44 hi hz0 hz1 hz2 rfl (by decide) _ _ _ rfl (World.ownsRow.alloc hown1 _) ⟨_, 0, none⟩ 1 1 [.int .u8 47] rfl rfl (cell_one_at (by simp)) (by intro u hu; simp at hu; subst hu; rfl) (by unfold maxLen; (try simp only [List.length_append, List.length_cons, List.length_nil]); omega) (by (try simp only [List.length_append, List.length_cons, List.length_nil]); omega) (by simp; omega) ?_; intro v2 w2 hown2 hg2 _; rw [snoc47, ← len_snoc _ 47] at hown2; obtain ⟨hB2, hw2⟩ := app_u8 hB1 hs1 hown1 hw1 notU8 _ hg2; have hs2 := hB2.size; have d2 := cellsAt hw2 0; have e2 := cellsAt hw2 1; simp only [List.getElem?_toArray, List.getElem?_cons_zero, List.getElem?_cons_succ] at d2 e2; clear hown1 hg2) | (go_at_call 188; refine (Tryz.strconv_AppendInt_10 w.heap.size _ q Hxr.out.2.1 Hxr.out.2.2 _ _ _ hown2 hs2 (by (try simp only [List.length_append, List.length_cons, List.length_nil]); omega) (Lib.TabBelow.on HP.out hB2)).mono ?_; rintro e w3 ⟨v3, rfl, hown3, hT3, hO3⟩; rw [← Lib.byteCells_append, ← List.length_append] at hown3; have hB3 : Below w.heap.size w w3 := hB2.trans hT3; have hs3 := hB3.size; have hw3 := hO3 _ _ hw2 (fun e => by cases e) notU8; have d3 := cellsAt hw3 0; have e3 := cellsAt hw3 1; simp only [List.getElem?_toArray, List.getElem?_cons_zero, List.getElem?_cons_succ] at d3 e3; clear hown2 hT3 hO3))
        refine ⟨⟨k + 1, by go_num, by omega, ?_, hB3⟩, by simp [intOf]; omega⟩
        rw [Hsucc.out]
        simpa only [List.nil_append, List.append_assoc] using hown3
      · have hk1 : 0 < (k : Int) := by omega
        rw [if_neg hk0] at Hsucc
        go_wp2_with (first | (at_builtin; refine wpList_append_own _ rfl (.tmp 15) _ 44 rfl w.heap.size 5 i0 (.int .u8 0) 1 1 Tryz.underlying44 hi hz0 hz1 hz2 rfl (by decide) _ _ _ rfl (World.ownsRow.alloc howna _) ⟨_, 0, none⟩ 1 1 [.int .u8 32] rfl rfl (cell_one_at (by simp)) (by intro u hu; simp at hu; subst hu; rfl) (by unfold maxLen; (try simp only [List.length_append, List.length_cons, List.length_nil]); omega) (by (try simp only [List.length_append, List.length_cons, List.length_nil]); omega) (by simp; omega) ?_; intro v0 w0 hown0 hg0 _; rw [snoc32, ← len_snoc _ 32] at hown0; obtain ⟨hB0, hw0⟩ := app_u8 hBa hsb howna hwa notU8 _ hg0; have hs0 := hB0.size; have d0 := cellsAt hw0 0; have e0 := cellsAt hw0 1; simp only [List.getElem?_toArray, List.getElem?_cons_zero, List.getElem?_cons_succ] at d0 e0; clear howna hg0) | (go_at_call 188; refine (Tryz.strconv_AppendInt_10 w.heap.size _ p Hxr.out.1.1 Hxr.out.1.2 _ _ _ hown0 hs0 (by (try simp only [List.length_append, List.length_cons, List.length_nil]); omega) (Lib.TabBelow.on HP.out hB0)).mono ?_; rintro e w1 ⟨v1, rfl, hown1, hT1, hO1⟩; rw [← Lib.byteCells_append, ← List.length_append] at hown1; have hB1 : Below w.heap.size w w1 := hB0.trans hT1; have hs1 := hB1.size; have hw1 := hO1 _ _ hw0 (fun e => by cases e) notU8; have d1 := cellsAt hw1 0; have e1 := cellsAt hw1 1; simp only [List.getElem?_toArray, List.getElem?_cons_zero, List.getElem?_cons_succ] at d1 e1; clear hown0 hT1 hO1) | (at_builtin; refine wpList_append_own _ rfl (.tmp 22) _ 44 rfl w.heap.size 5 i0 (.int .u8 0) 1 1 Tryz.underlying44 hi hz0 hz1 hz2 rfl (by decide) _ _ _ rfl (World.ownsRow.alloc hown1 _) ⟨_, 0, none⟩ 1 1 [.int .u8 47] rfl rfl (cell_one_at (by simp)) (by intro u hu; simp at hu; subst hu; rfl) (by unfold maxLen; (try simp only [List.length_append, List.length_cons, List.length_nil]); omega) (by (try simp only [List.length_append, List.length_cons, List.length_nil]); omega) (by simp; omega) ?_; intro v2 w2 hown2 hg2 _; rw [snoc47, ← len_snoc _ 47] at hown2; obtain ⟨hB2, hw2⟩ := app_u8 hB1 hs1 hown1 hw1 notU8 _ hg2; have hs2 := hB2.size; have d2 := cellsAt hw2 0; have e2 := cellsAt hw2 1; simp only [List.getElem?_toArray, List.getElem?_cons_zero, List.getElem?_cons_succ] at d2 e2; clear hown1 hg2) | (go_at_call 188; refine (Tryz.strconv_AppendInt_10 w.heap.size _ q Hxr.out.2.1 Hxr.out.2.2 _ _ _ hown2 hs2 (by (try simp only [List.length_append, List.length_cons, List.length_nil]); omega) (Lib.TabBelow.on HP.out hB2)).mono ?_; rintro e w3 ⟨v3, rfl, hown3, hT3, hO3⟩; rw [← Lib.byteCells_append, ← List.length_append] at hown3; have hB3 : Below w.heap.size w w3 := hB2.trans hT3; have hs3 := hB3.size; have hw3 := hO3 _ _ hw2 (fun e => by cases e) notU8; have d3 := cellsAt hw3 0; have e3 := cellsAt hw3 1; simp only [List.getElem?_toArray, List.getElem?_cons_zero, List.getElem?_cons_succ] at d3 e3; clear hown2 hT3 hO3))
        refine ⟨⟨k + 1, by go_num, by omega, ?_, hB3⟩, by simp [intOf]; omega⟩
        rw [Hsucc.out]
        simpa only [List.nil_append, List.append_assoc] using hown3
    · obtain ⟨pa, ca, rfl⟩ := ownsRow_slice hown
      have hcv := conv_row (dst := 9) hown Tryz.underlying44 Tryz.underlying5 Tryz.underlying9
      go_wp2
      go_ret
      have e : k = m.length := by omega
      subst e
      exact ⟨rfl, hB⟩

end Go.Proofs.YtjbjjfndkpcciaaGreatDoor

/- stripe's parseSpan, parseSpans, Parse. Own work; no statement. -/
set_option linter.unusedSimpArgs false
set_option linter.unusedVariables false
namespace Go.Proofs.YtjbjjfndkpcciaaGreatDoor
open Go.RowKit Go.Shelf

/-- A word as a span. -/
def spanL (l : List UInt8) : (Int × Int) × Bool :=
  if (numL (cutL l 47).1).2 = true ∧ (numL (cutL l 47).2.1).2 = true then (((numL (cutL l 47).1).1, (numL (cutL l 47).2.1).1), true) else ((0, 0), false)

/-- A struct of two cells, stored whole. -/
theorem put2 {W w : World} {b B : Nat} {x y : Value} {t : TypeId} {f : Nat × Nat} (h : W.heap[b]? = some (.cells #[x, y] t f)) (hB : Below B w W) (hb : B ≤ b) (u v : Value) :
    ((W.setCell ⟨b, 0, none⟩ u).setCell ⟨b, 1, none⟩ v).heap[b]? = some (.cells #[u, v] t f) ∧ ((W.setCell ⟨b, 0, none⟩ u).setCell ⟨b, 1, none⟩ v).cell? ⟨b, 0, none⟩ = some u ∧ ((W.setCell ⟨b, 0, none⟩ u).setCell ⟨b, 1, none⟩ v).cell? ⟨b, 1, none⟩ = some v ∧ Below B w ((W.setCell ⟨b, 0, none⟩ u).setCell ⟨b, 1, none⟩ v) := by
  have h2 := set1 (j := 1) (set1 (j := 0) h u) v
  simp only [List.setIfInBounds_toArray, List.set_cons_zero, List.set_cons_succ] at h2
  exact ⟨h2, by rw [cell_at h2]; rfl, by rw [cell_at h2]; rfl, (hB.setCell (p := ⟨b, 0, none⟩) hb u).setCell (p := ⟨b, 1, none⟩) hb v⟩

set_option maxHeartbeats 1000000 in
theorem parseSpan_calls (l : List UInt8) (w : World) (hs : l.length ≤ 1099511627776) :
    Calls Tryz.prog 222 #[.string ⟨l.toArray⟩] w fun e w' => e = .returned (.tuple #[.agg #[.int .i64 (spanL l).1.1, .int .i64 (spanL l).1.2], .bool (spanL l).2]) ∧ Below w.heap.size w w' := by
  have hlen := cutL_length l 47
  have C := hide fun w => cut_calls l 47 w hs
  obtain ⟨r, hr⟩ : ∃ r, spanL l = r := ⟨_, rfl⟩
  rw [hr]
  unfold spanL at hr
  generalize cutL l 47 = c at *
  obtain ⟨p, q, ok⟩ := c
  dsimp only at *
  have P1 := hide fun w => numParse_calls ⟨p.toArray⟩ w (by simp [ByteArray.size]; omega)
  have P2 := hide fun w => numParse_calls ⟨q.toArray⟩ w (by simp [ByteArray.size]; omega)
  rw [show (⟨p.toArray⟩ : ByteArray).data.toList = p from rfl] at P1
  rw [show (⟨q.toArray⟩ : ByteArray).data.toList = q from rfl] at P2
  generalize numL p = a at *
  generalize numL q = b at *
  obtain ⟨a, ia⟩ := a
  obtain ⟨b, ib⟩ := b
  dsimp only at *
  have K : Hid (∀ w1 n, w1 = (w.alloc (.cells #[.int .i64 0, .int .i64 0] 118)).drewN n → Below w.heap.size w w1 ∧ w1.heap[w.heap.size]? = some (.cells #[.int .i64 0, .int .i64 0] 118 (0, 0)) ∧ w1.cell? ⟨w.heap.size, 0, none⟩ = some (.int .i64 0) ∧ w1.cell? ⟨w.heap.size, 1, none⟩ = some (.int .i64 0) ∧ w1.frozen? ⟨w.heap.size, 0, none⟩ = false ∧ w1.frozen? ⟨w.heap.size, 1, none⟩ = false ∧ w1.heap.size = w.heap.size + 1) := by
    rintro w1 n rfl
    have h : ((w.alloc (.cells #[.int .i64 0, .int .i64 0] 118)).drewN n).heap[w.heap.size]? = some (.cells #[.int .i64 0, .int .i64 0] 118 (0, 0)) := World.alloc_heap_new w _
    exact ⟨((Below.refl _ w).alloc (Nat.le_refl _) _).trans (below_draws n), h, cellsAt h 0, cellsAt h 1, frozenAt h 0, frozenAt h 1, by simp [World.drewN]⟩
  cases ia with
  | false =>
    rw [if_neg (by simp)] at hr
    subst hr
    go_enter Tryz.func222, Tryz.ntmps222
    go_wp2_with (first | (go_at_call 125; refine (C.out _).mono ?_; rintro e w1 ⟨rfl, n, hw1⟩; obtain ⟨hB1, hb1, d0, d1, f0, f1, hs1⟩ := K.out w1 n hw1; replace hb1 := hide hb1; clear C hw1 K) | (go_at_call 176; refine (P1.out _).mono ?_; rintro e w2 ⟨rfl, rfl⟩; clear P1) | (go_at_call 176; refine (P2.out _).mono ?_; rintro e w2 ⟨rfl, rfl⟩; clear P2))
    obtain ⟨-, k0, k1, hB2⟩ := put2 hb1.out hB1 (Nat.le_refl _) (.int .i64 0) (.int .i64 0)
    exact bodyPost_ret (v := .tuple #[.agg #[.int .i64 0, .int .i64 0], .bool false]) (by simp [results, Tryz.f222, go_sem, k0, k1]) rfl ⟨rfl, hB2⟩
  | true =>
    cases ib with
    | false =>
      rw [if_neg (by simp)] at hr
      subst hr
      go_enter Tryz.func222, Tryz.ntmps222
      go_wp2_with (first | (go_at_call 125; refine (C.out _).mono ?_; rintro e w1 ⟨rfl, n, hw1⟩; obtain ⟨hB1, hb1, d0, d1, f0, f1, hs1⟩ := K.out w1 n hw1; replace hb1 := hide hb1; clear C hw1 K) | (go_at_call 176; refine (P1.out _).mono ?_; rintro e w2 ⟨rfl, rfl⟩; clear P1) | (go_at_call 176; refine (P2.out _).mono ?_; rintro e w2 ⟨rfl, rfl⟩; clear P2))
      obtain ⟨-, k0, k1, hB2⟩ := put2 hb1.out hB1 (Nat.le_refl _) (.int .i64 0) (.int .i64 0)
      exact bodyPost_ret (v := .tuple #[.agg #[.int .i64 0, .int .i64 0], .bool false]) (by simp [results, Tryz.f222, go_sem, k0, k1]) rfl ⟨rfl, hB2⟩
    | true =>
      rw [if_pos (by simp)] at hr
      subst hr
      go_enter Tryz.func222, Tryz.ntmps222
      go_wp2_with (first | (go_at_call 125; refine (C.out _).mono ?_; rintro e w1 ⟨rfl, n, hw1⟩; obtain ⟨hB1, hb1, d0, d1, f0, f1, hs1⟩ := K.out w1 n hw1; replace hb1 := hide hb1; clear C hw1 K) | (go_at_call 176; refine (P1.out _).mono ?_; rintro e w2 ⟨rfl, rfl⟩; clear P1) | (go_at_call 176; refine (P2.out _).mono ?_; rintro e w2 ⟨rfl, rfl⟩; clear P2))
      obtain ⟨-, k0, k1, hB2⟩ := put2 hb1.out hB1 (Nat.le_refl _) (.int .i64 a) (.int .i64 b)
      exact bodyPost_ret (v := .tuple #[.agg #[.int .i64 a, .int .i64 b], .bool true]) (by simp [results, Tryz.f222, go_sem, k0, k1]) rfl ⟨rfl, hB2⟩

end Go.Proofs.YtjbjjfndkpcciaaGreatDoor

/- stripe's parseSpans, Parse. Own work; no statement. -/
set_option linter.unusedSimpArgs false
set_option linter.unusedVariables false
namespace Go.Proofs.YtjbjjfndkpcciaaGreatDoor
open Go.RowKit Go.Shelf

attribute [local go_sem] Oper.semAt_some

theorem keeps_of_below {W W' : World} (h : Below W.heap.size W W') : KeepsOthers W W' := ⟨h.size, fun _ _ hk _ => (h.block _ (ltAt hk)).trans hk⟩
theorem app_lowS {W w1 : World} {N n₁ B : Nat} {t e : TypeId} {s : Nat} {v v' : Value} {k m : Nat} {xs ys : List Value} {tmp : Obj} (hv : Boxed W B t v) (hrow : W.ownsRow n₁ e s v k xs) (hn : n₁ ≤ W.heap.size) (hB : B < n₁) (hN : N ≤ B)
    (hown : w1.ownsRow n₁ e s v' m ys) (hgrow : (W.alloc tmp).grownBy w1 v.ownBlock) :
    Boxed w1 B t v ∧ Boxed (w1.setCell ⟨B, 0, none⟩ v') B t v' ∧ (w1.setCell ⟨B, 0, none⟩ v').ownsRow n₁ e s v' m ys ∧ KeepsOthers W (w1.setCell ⟨B, 0, none⟩ v') ∧ Below N W (w1.setCell ⟨B, 0, none⟩ v') ∧
      Hid (∀ b, b < n₁ → b ≠ B → (w1.setCell ⟨B, 0, none⟩ v').heap[b]? = W.heap[b]?) := by
  have hne : ∀ b, b < n₁ → some b ≠ v.ownBlock := fun b hb e' => by have := (hrow.lt b e'.symm).1; omega
  have hv1 : Boxed w1 B t v := (hv.alloc tmp).kept hgrow (hne B hB)
  have hoth : ∀ b, b < n₁ → b ≠ B → (w1.setCell ⟨B, 0, none⟩ v').heap[b]? = W.heap[b]? := fun b hb hbB => app_other hgrow b (by omega) (hne b hb) hbB
  refine ⟨hv1, hv1.set v', ownsRow_of_heap hown (fun k hk => Below.heap_setCell _ _ _ _ (fun e' => by have := (hown.lt k hk).1; have e2 : k = B := e'; omega)), ?_, ?_, hoth⟩
  · refine ((KeepsOthers.alloc W tmp).trans (KeepsOthers.of_grownBy hgrow fun j o ej hj => ?_)).trans (KeepsOthers.setCell _ _ _)
    rcases (hrow.alloc tmp).2 with ⟨rfl, _⟩ | ⟨g, cap, cur, rfl, _, hgb, _⟩
    · simp [Value.ownBlock] at ej
    · obtain rfl : g = j := by simpa [Value.ownBlock] using ej
      rw [hgb] at hj; cases hj; rfl
  · exact (((Below.refl N W).alloc (by omega) tmp).grown hgrow (by simp; omega) (fun j ej => by have := (hrow.lt j ej).1; omega)).setCell (p := ⟨B, 0, none⟩) hN v'

theorem two_new {W : World} {x y : Value} {e : TypeId} {g : Nat} (h : g = W.heap.size) : ∀ j u, [x, y][j]? = some u → (W.alloc (.cells #[x, y] e)).cell? ((⟨g, 0, none⟩ : Addr).add j) = some u := by
  subst h
  intro j u hj
  rw [Addr.add_lit, Nat.zero_add, cellsAt (World.alloc_heap_new W _)]
  simpa using hj
theorem two_one {x y : Int} : ∀ u ∈ ([.int .i64 x, .int .i64 y] : List Value), u.oneCell' = true := by
  intro u hu
  simp only [List.mem_cons, List.not_mem_nil, or_false] at hu
  rcases hu with rfl | rfl <;> rfl

/-- Words as spans. -/
def spansOf (ws : List (List UInt8)) : MapD := ws.map fun x => (spanL x).1
def spansB (ws : List (List UInt8)) : Bool := ws.all fun x => (spanL x).2
/-- Words as a map, if each is a span. -/
def parseW (ws : List (List UInt8)) : MapD × Bool := if spansB ws then (spansOf ws, true) else ([], false)

theorem splitL_length : ∀ l : List UInt8, (splitL l).length ≤ l.length + 1
  | [] => by simp [splitL]
  | x :: r => by
    have := splitL_length r
    unfold splitL
    split
    · simp; omega
    · cases h : splitL r with
      | nil => simp
      | cons y ys =>
        rw [h] at this
        simp at this ⊢
        omega

set_option maxRecDepth 100000 in
set_option maxHeartbeats 4000000 in
theorem parseSpansO_calls (s : List UInt8) (w : World) (hs : s.length ≤ 1073741824) (hne : ¬ s = []) :
    Calls Tryz.prog 207 #[.string ⟨s.toArray⟩] w fun e w' => ∃ v, e = .returned (.tuple #[v, .bool (parseW (splitL s)).2]) ∧ OwnsM w' w.heap.size v (parseW (splitL s)).1 ∧ Below w.heap.size w w' := by
  obtain ⟨i0, hi, hz0, hz1, hz2⟩ := info_parts Tryz.info118
  have hem : s.isEmpty = false := by cases s with
    | nil => exact absurd rfl hne
    | cons x r => rfl
  refine (callsIn_wide (n := 5)).1 ?_
  refine callsIn_of_wp_marks Tryz.func207 rfl trivial ?_ rfl
  simp only [Tryz.ntmps207, List.size_toArray, List.length_cons, List.length_nil, Nat.reduceAdd, Nat.reduceSub, Array.replicate_succ, Array.replicate_zero, List.push_toArray, List.append_toArray, List.nil_append, List.cons_append]
  gi_wp2_with (refine ⟨trivial, ?_⟩; gi_at_call 221; refine ((callsIn_wide (n := _)).2 (splitSeq_calls _ _)).mono ?_; rintro e w' ⟨rfl, rfl⟩)
  simp only [Nat.add_assoc, Nat.reduceAdd]
  obtain ⟨W8, hW8⟩ : ∃ W8, (((((w.alloc (.cells #[.slice none 0 0] 75)).alloc (.cells #[.bool false] 4)).alloc (.cells #[.slice none 0 0] 75)).alloc (.cells #[.string ⟨s.toArray⟩] 9)).alloc (.cells #[.string ⟨#[32]⟩] 9)).alloc (.cells #[.int .i64 0] 3) = W8 := ⟨_, rfl⟩
  have s8 : W8.heap.size = w.heap.size + 6 := by rw [← hW8]; simp
  have b0 : Boxed W8 w.heap.size 75 (.slice none 0 0) := by rw [← hW8]; exact ((((((boxed_new' (by simp)).alloc _).alloc _).alloc _).alloc _).alloc _)
  have b1 : Boxed W8 (w.heap.size + 1) 4 (.bool false) := by rw [← hW8]; exact (((((boxed_new' (by simp)).alloc _).alloc _).alloc _).alloc _)
  have b2 : Boxed W8 (w.heap.size + 2) 75 (.slice none 0 0) := by rw [← hW8]; exact ((((boxed_new' (by simp)).alloc _).alloc _).alloc _)
  have b5 : IsSplit W8 (w.heap.size + 3) s := by rw [← hW8]; exact ⟨(((boxed_new' (by simp)).alloc _).alloc _), ((boxed_new' (by simp)).alloc _), (boxed_new' (by simp))⟩
  have hB8 : Below w.heap.size w W8 := by
    rw [← hW8]
    exact ((((((Below.refl _ w).alloc (Nat.le_refl _) _).alloc (by simp) _).alloc (by simp; omega) _).alloc (by simp; omega) _).alloc (by simp; omega) _).alloc (by simp; omega) _
  rw [hW8]
  clear hW8
  refine range_law (by decide) (gf := 241) (lb := #[.pointer (some ⟨w.heap.size + 4, 0, none⟩), .pointer (some ⟨w.heap.size + 3, 0, none⟩), .pointer (some ⟨w.heap.size + 5, 0, none⟩)]) rfl (enters_of Tryz.func241 (by kernel_rfl) rfl)
    (split_stops 4 (by decide) (w.heap.size + 3) s (by omega) W8 b5) keepsThree_t (keepsThree_b (by omega)) ?hE (fun _ => rfl)
    (fun pre W => ((∃ v, Boxed W (w.heap.size + 2) 75 v ∧ W.ownsRow (w.heap.size + 6) 118 2 v (spansOf (pre.map (·.1))).length (cellsM (spansOf (pre.map (·.1))))) ∧
      Boxed W w.heap.size 75 (.slice none 0 0) ∧ Boxed W (w.heap.size + 1) 4 (.bool false) ∧ (spansB (pre.map (·.1)) = true) ∧ w.heap.size + 6 ≤ W.heap.size) ∧ Below w.heap.size w W)
    (fun c pre W => (c = .ret ∧ Boxed W w.heap.size 75 (.slice none 0 0) ∧ Boxed W (w.heap.size + 1) 4 (.bool false) ∧ (spansB (pre.map (·.1)) = false)) ∧ Below w.heap.size w W)
    ?hI ?hIx ?hIE ?hIxE ?h0
    (fun x => { tmps := #[.string ⟨s.toArray⟩, undef, .pointer (some ⟨w.heap.size, 0, none⟩), .pointer (some ⟨w.heap.size + 1, 0, none⟩), .pointer (some ⟨w.heap.size + 2, 0, none⟩), .string ⟨x.1.toArray⟩, undef, undef, .string ⟨s.toArray⟩, .bool false, .string ⟨s.toArray⟩, .func (.func 241) #[] #[.pointer (some ⟨w.heap.size + 4, 0, none⟩), .pointer (some ⟨w.heap.size + 3, 0, none⟩), .pointer (some ⟨w.heap.size + 5, 0, none⟩)], .string ⟨x.1.toArray⟩, undef, undef, undef, undef, undef, undef, undef, undef, undef, undef, undef, undef], defers := [] }) ?assign ?body ?done ?stop
  case hE =>
    rintro A B ⟨v, rfl⟩
    exact (KeepsOthers.setCell _ _ _).from _
  case hI =>
    refine OwnFrom.and (Own.from (fun pre X Y row hh hg hr => ?_) _) (ownFrom_below (Nat.le_refl _) (by omega))
    obtain ⟨⟨v, h1, h2⟩, h3, h4, h5, hsz⟩ := hh
    exact ⟨⟨v, boxed_own' hg hr h1, ownsRow_own' hg hr h2⟩, boxed_own' hg hr h3, boxed_own' hg hr h4, h5, Nat.le_trans hsz hg.size⟩
  case hIx =>
    intro c
    refine OwnFrom.and (Own.from (fun pre X Y row hh hg hr => ?_) _) (ownFrom_below (Nat.le_refl _) (by omega))
    exact ⟨hh.1, boxed_own' hg hr hh.2.1, boxed_own' hg hr hh.2.2.1, hh.2.2.2⟩
  case hIE =>
    rintro pre A B ⟨⟨⟨v, h1, h2⟩, h3, h4, h5, hsz⟩, hB⟩ ⟨u, rfl⟩
    have hk : ∀ k, k ≠ w.heap.size + 3 → (A.setCell ⟨w.heap.size + 3, 0, none⟩ u).heap[k]? = A.heap[k]? := fun k h => Below.heap_setCell _ _ _ _ h
    exact ⟨⟨⟨v, boxed_of_heap h1 (hk _ (by omega)), ownsRow_of_heap h2 (fun k hk' => hk k (by have := (h2.lt k hk').1; omega))⟩, boxed_of_heap h3 (hk _ (by omega)), boxed_of_heap h4 (hk _ (by omega)), h5, by simpa using hsz⟩, hB.setCell (p := ⟨w.heap.size + 3, 0, none⟩) (by simp) _⟩
  case hIxE =>
    rintro c pre A B ⟨⟨hc, h1, h2, h3⟩, hB⟩ ⟨u, rfl⟩
    have hk : ∀ k, k ≠ w.heap.size + 3 → (A.setCell ⟨w.heap.size + 3, 0, none⟩ u).heap[k]? = A.heap[k]? := fun k h => Below.heap_setCell _ _ _ _ h
    exact ⟨⟨hc, boxed_of_heap h1 (hk _ (by omega)), boxed_of_heap h2 (hk _ (by omega)), h3⟩, hB.setCell (p := ⟨w.heap.size + 3, 0, none⟩) (by simp) _⟩
  case h0 => exact ⟨⟨⟨_, b2, World.ownsRow_nil _ _ _ _⟩, b0, b1, rfl, by omega⟩, hB8⟩
  case assign =>
    intro l x W K hK
    gi_wp2
    exact hK
  case body =>
    rintro lp pre ⟨x, hx⟩ W ⟨⟨⟨v, h1, h2⟩, h5, h6, h7, hsz⟩, hB⟩ hlt
    clear b0 b1 b2 b5 hB8
    have hplen : (spansOf (pre.map (·.1))).length ≤ 1073741825 := by
      have := splitL_length s
      simp only [spansOf, List.length_map]
      omega
    have hsnoc : spansOf ((pre ++ [(⟨x, hx⟩ : Word)]).map (·.1)) = spansOf (pre.map (·.1)) ++ [(spanL x).1] := by simp [spansOf]
    have hall : spansB ((pre ++ [(⟨x, hx⟩ : Word)]).map (·.1)) = (spanL x).2 := by
      rw [spansB, List.map_append, List.all_append]
      rw [spansB] at h7
      rw [h7]
      simp
    have C := hide fun w => parseSpan_calls x w hx
    generalize spanL x = sp at *
    obtain ⟨⟨p, q⟩, ok⟩ := sp
    dsimp only at *
    obtain ⟨L, hL⟩ : ∃ L, spansOf (pre.map (·.1)) = L := ⟨_, rfl⟩
    rw [hL] at h2 hsnoc hplen
    have Hsnoc := hide hsnoc
    have Hall := hide hall
    clear hL hall hsnoc h7 hlt
    have K : Hid (∀ w1, Below W.heap.size W w1 → w.heap.size + 6 ≤ w1.heap.size ∧ ∀ X, X = w1.alloc (.cells #[.int .i64 p, .int .i64 q] 118) → Boxed X w.heap.size 75 (.slice none 0 0) ∧ Boxed X (w.heap.size + 1) 4 (.bool false) ∧ Boxed X (w.heap.size + 2) 75 v ∧
        X.cell? ⟨w.heap.size, 0, none⟩ = some (.slice none 0 0) ∧ X.frozen? ⟨w.heap.size, 0, none⟩ = false ∧ X.cell? ⟨w.heap.size + 1, 0, none⟩ = some (.bool false) ∧ X.frozen? ⟨w.heap.size + 1, 0, none⟩ = false ∧ X.cell? ⟨w.heap.size + 2, 0, none⟩ = some v ∧ X.frozen? ⟨w.heap.size + 2, 0, none⟩ = false) := by
      intro w1 hB1
      refine ⟨Nat.le_trans hsz hB1.size, ?_⟩
      rintro X rfl
      have x5 := (boxed_of_heap h5 (hB1.block _ h5.lt)).alloc (.cells #[.int .i64 p, .int .i64 q] 118)
      have x6 := (boxed_of_heap h6 (hB1.block _ h6.lt)).alloc (.cells #[.int .i64 p, .int .i64 q] 118)
      have x1 := (boxed_of_heap h1 (hB1.block _ h1.lt)).alloc (.cells #[.int .i64 p, .int .i64 q] 118)
      exact ⟨x5, x6, x1, x5.cell, x5.frozen, x6.cell, x6.frozen, x1.cell, x1.frozen⟩
    have hbs := hB.size
    cases ok with
    | false =>
      gi_wp2_with (refine ⟨trivial, ?_⟩; gi_at_call 222; refine (CallsIn.inRound lp ((callsIn_wide (n := _)).2 (C.out _))).mono ?_; rintro e w1 ⟨rfl, hB1⟩; obtain ⟨hs1, K1⟩ := K.out w1 hB1; obtain ⟨x5, x6, x1, c0, f0, c1, f1, c2, f2⟩ := K1 _ rfl; clear C K1)
      exact ⟨(((keeps_of_below hB1).trans (KeepsOthers.alloc _ _)).trans ((KeepsOthers.setCell _ _ _).trans (KeepsOthers.setCell _ _ _))).from _, ⟨rfl, boxed_of_heap (x5.set _) (one_set _ (by omega)), (boxed_of_heap x6 (one_set _ (by omega))).set _, Hall.out⟩, (((hB.trans (hB1.mono hbs)).alloc (by omega) _).setCell (p := ⟨w.heap.size, 0, none⟩) (by simp) _).setCell (p := ⟨w.heap.size + 1, 0, none⟩) (by simp) _⟩
    | true =>
      obtain ⟨pa, ca, rfl⟩ := ownsRow_slice h2
      gi_wp2_with (first | (refine ⟨trivial, ?_⟩; gi_at_call 222; refine (CallsIn.inRound lp ((callsIn_wide (n := _)).2 (C.out _))).mono ?_; rintro e w1 ⟨rfl, hB1⟩; obtain ⟨hs1, K1⟩ := K.out w1 hB1; obtain ⟨x5, x6, x1, c0, f0, c1, f1, c2, f2⟩ := K1 _ rfl; clear C K1) | (gi_at_builtin; have z2 := World.ownsRow.alloc (ownsRow_of_heap h2 (fun k e => hB1.block k (h2.lt k e).2)) (.cells #[.int .i64 p, .int .i64 q] 118); refine wpListIn_append_own_at _ rfl (.tmp 20) _ 75 rfl (w.heap.size + 6) 118 i0 _ 2 16 Tryz.underlying75 hi hz0 hz1 hz2 rfl (by decide) _ _ _ rfl (World.ownsRow.alloc z2 _) ⟨_, 0, none⟩ 1 1 [.int .i64 p, .int .i64 q] rfl rfl (two_new (by simp)) two_one (by unfold maxLen; omega) (by omega) (by simp; omega) ?_; intro v1 w2 hown1 hgrow1 _ _; obtain ⟨g1, cap1, rfl⟩ := ownsRow_succ hown1; obtain ⟨bx1, t1, r1, k1, hb1, ho1⟩ := app_lowS (N := w.heap.size) x1 z2 (by simp; omega) (by omega) (by omega) hown1 hgrow1; have d1 := bx1.cell; have g1f := bx1.frozen; clear hgrow1 hown1))
      have q : ∀ b, b < w.heap.size + 6 → b ≠ w.heap.size + 2 → _ = W.heap[b]? := fun b hb h2 => (ho1.out b hb h2).trans ((Below.heap_alloc _ _ _ (by omega)).trans (hB1.block b (by omega)))
      refine ⟨(((keeps_of_below hB1).trans (KeepsOthers.alloc _ _)).trans k1).from _, ⟨q _ (by omega) (by omega), q _ (by omega) (by omega), q _ (by omega) (by omega)⟩, ⟨⟨_, t1, ?_⟩, boxed_of_heap h5 (q _ (by omega) (by omega)), boxed_of_heap h6 (q _ (by omega) (by omega)), Hall.out, ?_⟩, ((hB.trans (hB1.mono hbs)).alloc (by omega) _).trans hb1⟩
      · rw [Hsnoc.out, List.length_append, cellsM_append]
        exact r1
      · have := hb1.size
        simp at this ⊢
        omega
  case done =>
    rintro D ys W hD hys ⟨⟨⟨v, h1, h2⟩, h5, h6, h7, hsz⟩, hB⟩ hK
    clear b0 b1 b2 b5 hB8
    obtain ⟨pa, ca, rfl⟩ := ownsRow_slice h2
    rw [hys] at h1 h2 h7
    have hp : parseW (splitL s) = (spansOf (splitL s), true) := by unfold parseW; rw [if_pos h7]
    have c2 := h1.cell
    have c0 := h5.cell
    have c1 := h6.cell
    have f0 := h5.frozen
    have f1 := h6.frozen
    generalize spansOf (splitL s) = l at *
    have Hp := hide hp
    clear hp h7 hys
    gi_wp2
    obtain ⟨W3, hW3⟩ : ∃ W3, (W.setCell ⟨w.heap.size, 0, none⟩ (.slice pa l.length ca)).setCell ⟨w.heap.size + 1, 0, none⟩ (.bool true) = W3 := ⟨_, rfl⟩
    have hK3 : W3.heap[D]? = some (.deferred (some [])) := by
      rw [← hW3]
      exact (KeepsOthers.setCell _ _ _).same D _ ((KeepsOthers.setCell _ _ _).same D _ hK rfl) rfl
    have R0 : Boxed W3 w.heap.size 75 (.slice pa l.length ca) := by rw [← hW3]; exact boxed_of_heap (h5.set _) (one_set _ (by omega))
    have R1 : Boxed W3 (w.heap.size + 1) 4 (.bool true) := by rw [← hW3]; exact (boxed_of_heap h6 (one_set _ (by omega))).set _
    have hB3 : Below w.heap.size w W3 := by rw [← hW3]; exact (hB.setCell (p := ⟨w.heap.size, 0, none⟩) (by simp) _).setCell (p := ⟨w.heap.size + 1, 0, none⟩) (by simp) _
    have hk3 : ∀ k, w.heap.size + 6 ≤ k → W3.heap[k]? = W.heap[k]? := by intro k hk; rw [← hW3]; exact two_sets k (by omega) (by omega)
    rw [hW3]
    have hg := grownBy_putObj' W3 D (.deferred none)
    have hr : ∀ r, some D = some r → ∃ o : Obj, W3.heap[r]? = some o ∧ o.isCells = false := fun r e => by cases e; exact ⟨_, hK3, rfl⟩
    have Q0 := (boxed_own' hg hr R0).cell
    have Q1 := (boxed_own' hg hr R1).cell
    refine ⟨by simp, .inl ⟨_, _, rfl, run_takeDeferred hK3, ?_⟩⟩
    refine ⟨.tuple #[.slice pa l.length ca, .bool true], by simp [results, Tryz.f207, go_sem, Q0, Q1], .slice pa l.length ca, by rw [Hp.out], ?_, hB3.trans (belowK_b (w := w) (Nat.le_refl _) W3 D _ _ (by omega) hK3 rfl rfl)⟩
    rw [Hp.out]
    exact ownsRow_low (ownsRow_own' hg hr (ownsRow_of_heap h2 (fun k hk => hk3 k (h2.lt k hk).1))) (by omega)
  case stop =>
    rintro D c pre W hD hpre ⟨⟨rfl, h5, h6, h7⟩, hB⟩ hK
    clear b0 b1 b2 b5 hB8
    have hpn : parseW (splitL s) = ([], false) := by
      unfold parseW
      rw [if_neg]
      intro hall
      rw [spansB, List.all_eq_true] at hall
      rw [spansB, List.all_eq_false] at h7
      obtain ⟨x, hx, hx'⟩ := h7
      exact hx' (hall x (hpre.subset hx))
    have Hp := hide hpn
    clear hpn h7
    gi_wp2
    have hg := grownBy_putObj' W D (.deferred none)
    have hr : ∀ r, some D = some r → ∃ o : Obj, W.heap[r]? = some o ∧ o.isCells = false := fun r e => by cases e; exact ⟨_, hK, rfl⟩
    have Q0 := (boxed_own' hg hr h5).cell
    have Q1 := (boxed_own' hg hr h6).cell
    refine ⟨by simp, .inl ⟨_, _, rfl, run_takeDeferred hK, ?_⟩⟩
    exact ⟨.tuple #[.slice none 0 0, .bool false], by simp [results, Tryz.f207, go_sem, Q0, Q1], .slice none 0 0, by rw [Hp.out], by rw [Hp.out]; exact World.ownsRow_nil _ _ _ _, hB.trans (belowK_b (w := w) (Nat.le_refl _) W D _ _ (by omega) hK rfl rfl)⟩

/-- A text as spans, and whether it is a text of such. -/
def parseT (s : List UInt8) : MapD × Bool := if s = [] then ([], true) else parseW (splitL s)
/-- A text as a map, and the error's number. -/
def parseM (s : List UInt8) : MapD × Int := if (parseT s).2 = true then (if okMap (parseT s).1 = true then ((parseT s).1, 0) else ([], 1)) else ([], 2)

set_option maxHeartbeats 1000000 in
theorem parseSpans_calls (s : List UInt8) (w : World) (hs : s.length ≤ 1073741824) :
    Calls Tryz.prog 207 #[.string ⟨s.toArray⟩] w fun e w' => ∃ v, e = .returned (.tuple #[v, .bool (parseT s).2]) ∧ OwnsM w' w.heap.size v (parseT s).1 ∧ Below w.heap.size w w' := by
  by_cases hne : s = []
  · subst hne
    go_enter Tryz.func207, Tryz.ntmps207
    go_wp2
    have b0 : Boxed ((w.alloc (.cells #[.slice none 0 0] 75)).alloc (.cells #[.bool true] 4)) w.heap.size 75 (.slice none 0 0) := (boxed_new' rfl).alloc _
    have b1 : Boxed ((w.alloc (.cells #[.slice none 0 0] 75)).alloc (.cells #[.bool true] 4)) (w.heap.size + 1) 4 (.bool true) := boxed_new' (by simp)
    exact bodyPost_ret (v := .tuple #[.slice none 0 0, .bool true]) (by simp [results, Tryz.f207, go_sem, b0.cell, b1.cell]) rfl ⟨_, rfl, World.ownsRow_nil _ _ _ _, ((Below.refl _ w).alloc (Nat.le_refl _) _).alloc (by simp) _⟩
  · have e : parseT s = parseW (splitL s) := by unfold parseT; rw [if_neg hne]
    rw [e]
    exact parseSpansO_calls s w hs hne

set_option maxHeartbeats 1000000 in
theorem mapParse_calls (s : List UInt8) (w : World) (hs : s.length ≤ 1073741824) :
    Calls Tryz.prog 178 #[.string ⟨s.toArray⟩] w fun e w' => ∃ v, e = .returned (.tuple #[v, .int .i64 (parseM s).2]) ∧ OwnsM w' w.heap.size v (parseM s).1 ∧ Below w.heap.size w w' := by
  have C := hide (parseSpans_calls s w hs)
  have hlen : (parseT s).1.length ≤ 1073741825 := by
    unfold parseT parseW spansOf
    have := splitL_length s
    split
    · simp
    · split
      · simp; omega
      · simp
  obtain ⟨r, hr⟩ : ∃ r, parseM s = r := ⟨_, rfl⟩
  rw [hr]
  unfold parseM at hr
  generalize parseT s = p at *
  obtain ⟨m, ok⟩ := p
  dsimp only at *
  cases ok with
  | false =>
    rw [if_neg (by simp)] at hr
    subst hr
    go_enter Tryz.func178, Tryz.ntmps178
    go_wp2_with (go_at_call 207; refine C.out.mono ?_; rintro e w1 ⟨v, rfl, hown, hB⟩)
    go_ret2
    exact ⟨_, rfl, World.ownsRow_nil _ _ _ _, hB⟩
  | true =>
    rw [if_pos rfl] at hr
    by_cases hok : okMap m = true
    · have hc0 : checkM m = 0 := by rw [checkM, if_pos hok]
      rw [if_pos hok] at hr
      subst hr
      go_enter Tryz.func178, Tryz.ntmps178
      go_wp2_with (first | (go_at_call 207; refine C.out.mono ?_; rintro e w1 ⟨v, rfl, hown, hB⟩; have K := hide (mapCheck_calls _ m w1 (OwnsM.map hown) (by omega)); rw [hc0] at K; obtain ⟨a1, cap1, rfl⟩ := ownsRow_slice hown; clear C) | (go_at_call 86; refine K.out.mono ?_; rintro e w2 ⟨rfl, hB2⟩))
      go_ret2
      exact ⟨_, rfl, ownsRow_of_heap hown fun k e => hB2.block k (hown.lt k e).2, hB.trans (hB2.mono hB.size)⟩
    · have hc0 : checkM m = 1 := by rw [checkM, if_neg hok]
      rw [if_neg hok] at hr
      subst hr
      go_enter Tryz.func178, Tryz.ntmps178
      go_wp2_with (first | (go_at_call 207; refine C.out.mono ?_; rintro e w1 ⟨v, rfl, hown, hB⟩; have K := hide (mapCheck_calls _ m w1 (OwnsM.map hown) (by omega)); rw [hc0] at K; obtain ⟨a1, cap1, rfl⟩ := ownsRow_slice hown; clear C) | (go_at_call 86; refine K.out.mono ?_; rintro e w2 ⟨rfl, hB2⟩))
      go_ret2
      exact ⟨_, rfl, World.ownsRow_nil _ _ _ _, hB.trans (hB2.mono hB.size)⟩

end Go.Proofs.YtjbjjfndkpcciaaGreatDoor

/- Plain laws: what is read as a record is told just so; records that are the same are told the same. Own work; no statement. -/
set_option linter.unusedSimpArgs false
set_option linter.unusedVariables false
namespace Go.Proofs.YtjbjjfndkpcciaaGreatDoor

theorem numL_text {x : List UInt8} (h : (numL x).2 = true) : Lib.itoa (numL x).1 = x ∧ 0 ≤ (numL x).1 ∧ (numL x).1 ≤ 2147483647 := by
  have hv : numL x = if decOk x = true ∧ valTo x 0 ≤ 2147483647 then (valTo x 0, true) else (0, false) := by
    unfold numL
    cases hd : decOk x with
    | false => simp
    | true =>
      have hm := decToM_val (m := 2147483647) (by omega) x 0 (decOk_parts hd).2.2 (Int.le_refl _)
      rw [show min (0 : Int) (2147483647 + 1) = 0 by omega] at hm
      rw [hm]
      by_cases hv : valTo x 0 ≤ 2147483647
      · rw [if_pos ⟨rfl, by omega⟩, if_pos ⟨rfl, hv⟩, show min (valTo x 0) (2147483647 + 1) = valTo x 0 by omega]
      · rw [if_neg (by omega), if_neg (by omega)]
  rw [hv] at h ⊢
  split at h
  · rename_i hh
    rw [if_pos hh]
    dsimp only
    have hge := valTo_ge x 0 (decOk_parts hh.1).2.2 (Int.le_refl _)
    refine ⟨?_, hge, hh.2⟩
    rw [itoa_nat _ hge]
    have := digits_val x.reverse (by rw [List.reverse_reverse]; exact hh.1)
    rwa [List.reverse_reverse] at this
  · cases h

theorem cut_form {l : List UInt8} {c : UInt8} (h : (cutL l c).2.2 = true) : l = (cutL l c).1 ++ c :: (cutL l c).2.1 := by
  unfold cutL at *
  by_cases hi : Lib.indexByte l c = -1
  · rw [if_pos hi] at h
    cases h
  · rw [if_neg hi]
    dsimp only
    have hge := Lib.indexByte_ge l c
    have hlt := indexByte_lt l c
    obtain ⟨k, hk⟩ := Int.eq_ofNat_of_zero_le (show 0 ≤ Lib.indexByte l c by omega)
    rw [hk, Int.toNat_natCast]
    have hkl : k < l.length := by omega
    have hat : ∀ (l : List UInt8) (k : Nat), Lib.indexByte l c = k → l[k]? = some c := by
      intro l
      induction l with
      | nil => intro k h; simp [Lib.indexByte] at h
      | cons x l ih =>
        intro k h
        simp only [Lib.indexByte] at h
        split at h
        · rename_i hx
          have : k = 0 := by omega
          subst this
          simpa using hx
        · split at h
          · omega
          · cases k with
            | zero => have := Lib.indexByte_ge l c; rename_i h1 h2; simp at h2; omega
            | succ k => simpa using ih k (by omega)
    have hc := hat l k hk
    conv => lhs; rw [← List.take_append_drop k l]
    congr 1
    rw [List.drop_eq_getElem_cons hkl]
    congr 1
    rw [List.getElem?_eq_getElem hkl] at hc
    exact Option.some.inj hc

theorem split_form {s : List UInt8} {p : Parts} (h : splitR s = some p) : s = p.site ++ 58 :: (p.seq ++ 32 :: (p.dep ++ 32 :: (p.key ++ 61 :: p.val))) := by
  unfold splitR at h
  dsimp only at h
  have f1 := @cut_form s 58
  generalize cutL s 58 = c1 at *
  have f2 := @cut_form c1.2.1 32
  generalize cutL c1.2.1 32 = c2 at *
  generalize (Lib.indexByte c2.2.1 93 + 1).toNat = e at *
  have f3 := @cut_form (Lib.trimPrefix (c2.2.1.drop e) [32]) 61
  split at h
  · rename_i hh
    obtain ⟨g1, g2, g3, g4, g5⟩ := hh
    have e1 := Option.some.inj h
    subst e1
    dsimp only
    have hr : c2.2.1.drop e = 32 :: Lib.trimPrefix (c2.2.1.drop e) [32] := by
      unfold Lib.trimPrefix
      rw [g4, if_pos rfl]
      generalize c2.2.1.drop e = r at *
      cases r with
      | nil => simp [Lib.hasPrefix, List.isPrefixOf] at g4
      | cons x r =>
        simp [Lib.hasPrefix, List.isPrefixOf] at g4
        simp [g4]
    rw [← f3 g5, ← hr, List.take_append_drop, ← f2 g2, ← f1 g1]
  · cases h

theorem text_parseR {s : List UInt8} (h : (parseR s).2 = 0) : (textR (parseR s).1).data.toList = s := by
  unfold parseR at h ⊢
  cases hs : splitR s with
  | none =>
    rw [hs] at h
    exact absurd h (by decide +kernel : ¬ (parseP false [] [] [] [] []).2 = 0)
  | some p =>
    rw [hs] at h
    have hf := split_form hs
    dsimp only at h ⊢
    unfold parseP at h ⊢
    split at h
    · rename_i hh
      obtain ⟨-, n1, n2⟩ := hh
      rw [if_pos ⟨rfl, n1, n2⟩]
      split at h
      · rename_i h0
        rw [if_pos h0]
        split at h
        · rename_i hc
          rw [if_pos hc]
          dsimp only
          rw [textR_list]
          dsimp only
          rw [(numL_text n1).1, (numL_text n2).1, text_parse h0, hf]
        · rename_i hc
          exact absurd h hc
      · rename_i h0
        exact absurd h h0
    · cases h

theorem written_same {a b : List Int} (h : ∀ i, a.getD i 0 = b.getD i 0) : writtenL a = writtenL b := by
  have one : ∀ {a b : List Int}, (∀ i, a.getD i 0 = b.getD i 0) → writtenL a ≤ writtenL b := by
    intro a b h
    rcases Nat.lt_or_ge (writtenL b) (writtenL a) with hlt | hge
    · exfalso
      obtain ⟨k, hk⟩ : ∃ k, writtenL a = k + 1 := ⟨writtenL a - 1, by omega⟩
      exact writtenL_last a k hk (by rw [h k]; exact writtenL_past b k (by omega))
    · exact hge
  have h1 := one h
  have h2 := one (fun i => (h i).symm)
  omega
theorem nums_same {a b : List Int} (h : ∀ i, a.getD i 0 = b.getD i 0) : ∀ k, numsTo a k = numsTo b k
  | 0 => rfl
  | k + 1 => by simp only [numsTo]; rw [nums_same h k, h k]
theorem same_text {a b : RecD} (h : sameR a b = true) : textR a = textR b := by
  unfold sameR at h
  simp only [Bool.and_eq_true, decide_eq_true_eq] at h
  obtain ⟨h1, h2, h3, h4, h5⟩ := h
  rw [same_iff] at h5
  unfold textR textL
  rw [h1, h2, h3, h4, written_same h5, nums_same h5]

theorem nought_parse (r : RecD) (h0 : 0 ≤ r.site) : (parseR (48 :: (textR r).data.toList)).2 = 2 := by
  rw [textR_list]
  have hsite : ∀ c ∈ 48 :: Lib.itoa r.site, c ≠ 58 := by
    intro c hc
    rcases List.mem_cons.1 hc with rfl | hc
    · decide
    · exact itoa_ne h0 (by decide) c hc
  have hcut := cut_at (48 :: Lib.itoa r.site) (Lib.itoa r.seq ++ 32 :: (textL r.dep ++ 32 :: (r.key.data.toList ++ 61 :: r.val.data.toList))) 58 hsite
  have hne : Lib.itoa r.site ≠ [] := by rw [itoa_nat _ h0]; exact decDigits_ne _
  have hok : decOk (48 :: Lib.itoa r.site) = false := by
    unfold decOk
    have : 1 < (48 :: Lib.itoa r.site).length := by
      have := List.length_pos_iff.2 hne
      simp only [List.length_cons]
      omega
    rw [decide_eq_true this]
    simp
  have hnum : (numL (48 :: Lib.itoa r.site)).2 = false := by
    unfold numL
    rw [hok]
    simp
  unfold parseR
  cases hs : splitR (48 :: (Lib.itoa r.site ++ 58 :: (Lib.itoa r.seq ++ 32 :: (textL r.dep ++ 32 :: (r.key.data.toList ++ 61 :: r.val.data.toList))))) with
  | none => decide +kernel
  | some p =>
    dsimp only
    have hp : p.site = 48 :: Lib.itoa r.site := by
      unfold splitR at hs
      rw [← List.cons_append, hcut] at hs
      dsimp only at hs
      split at hs
      · have := Option.some.inj hs
        rw [← this]
      · cases hs
    unfold parseP
    rw [hp, hnum, if_neg (by simp)]

end Go.Proofs.YtjbjjfndkpcciaaGreatDoor
