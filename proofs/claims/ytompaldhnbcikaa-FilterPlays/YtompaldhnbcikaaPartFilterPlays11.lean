/- Own work: the parts RF6, HeldT of the proof, laid together. -/
import Derived.Test.YtompaldhnbcikaaPartFilterPlays6
import Derived.Test.YtompaldhnbcikaaPartFilterPlays10
import Derived.Test.YtompaldhnbcikaaPartFilterPlays1
import Derived.OrdersHeld
import Derived.StillTail
/- A filter and the reference's beside each other. Own work; no statement. -/
set_option linter.unusedSimpArgs false
set_option linter.unusedVariables false
namespace Go.Proofs.Ytompaldhnbcikaa
open Go.RowKit Go.Shelf Go.Sort

theorem apart_le (a : Int) : ∀ (n : Nat) (L : List Int), L.Nodup → (∀ x ∈ L, a ≤ x ∧ x < a + n) → L.length ≤ n
  | 0, L, _, h => by
    cases L with
    | nil => exact Nat.le_refl _
    | cons x L => have := h x (List.mem_cons_self ..); omega
  | n + 1, L, hn, h => by
    by_cases hm : (a + n : Int) ∈ L
    · have h1 := apart_le a n (L.erase (a + n)) (hn.erase _) fun x hx => by
        have h2 := (hn.mem_erase_iff).1 hx
        have h3 := h x h2.2
        have := h2.1
        omega
      rw [List.length_erase_of_mem hm] at h1
      omega
    · have h1 := apart_le a n L hn fun x hx => by
        have h3 := h x hx
        have : x ≠ a + n := fun e => hm (e ▸ hx)
        omega
      omega
theorem FilD.ok.len {F : FilD} (h : F.ok) : F.L.length ≤ 64 := by
  have h1 := apart_le F.next F.room.toNat (F.L.map (·.seq)) (List.pairwise_map.2 h.apart) fun x hx => by
    obtain ⟨r, hr, rfl⟩ := List.mem_map.1 hx
    have := (h.each r hr).2.2
    have := h.room0
    omega
  rw [List.length_map] at h1
  have := h.room1
  have := h.room0
  omega

/-- What neither filter writes. -/
def KeptB (w w' : World) : Prop := ∀ (k : Nat) (c : Array Value) (t : TypeId) (f : Nat × Nat), w.heap[k]? = some (.cells c t f) → t ≠ 69 → t ≠ 58 → w'.heap[k]? = w.heap[k]?
theorem Kept.b {w w' : World} (h : Kept w w') : KeptB w w' := fun k c t f e h1 _ => h k c t f e h1
theorem keptB_touch {w0 w w' : World} {B m : Nat} {G : FilD} (h : IsRF w0 w B m G) (t : Touch (fun k => k = m) w w') : KeptB w w' := fun k c ty f e _ h2 => t.block k (ltAt e) fun e' => by
  subst e'
  obtain ⟨v, l, -, hm, -⟩ := h.val
  rw [hm] at e
  simp only [Option.some.injEq, Obj.cells.injEq] at e
  exact h2 e.2.1.symm
theorem HasL.keptB {w w' : World} {v : Value} {L : List RecD} (h : HasL w v L) (k : KeptB w w') : HasL w' v L := h.keep fun i c t e ht => k i c t _ e (by rcases ht with rfl | rfl <;> decide) (by rcases ht with rfl | rfl <;> decide)

/-- A filter at p (its map at b) and the reference's at m, their memory made since w0. -/
structure Bo (w0 w : World) (p b m : Nat) (F G : FilD) : Prop where
  at_ : AtF w0 w p b F
  rf : IsRF w0 w w0.heap.size m G
theorem Bo.new {w0 w w' : World} {p b m : Nat} {F G : FilD} (h : Bo w0 w p b m F G) (hb : RowKit.Below w.heap.size w w') : Bo w0 w' p b m F G := ⟨h.at_.new hb, h.rf.below hb⟩
theorem Bo.size {w0 w : World} {p b m : Nat} {F G : FilD} (h : Bo w0 w p b m F G) : w0.heap.size ≤ w.heap.size := h.at_.bel.size
theorem Bo.one {w0 w w' : World} {p b p' b' m : Nat} {F F' G : FilD} (h : Bo w0 w p b m F G) (ha : AtF w0 w' p' b' F') (k : Kept w w') : Bo w0 w' p' b' m F' G := ⟨ha, h.rf.kept k⟩
theorem Bo.two {w0 w w' : World} {p b m : Nat} {F G G' : FilD} (h : Bo w0 w p b m F G) (hr : IsRF w0 w' w0.heap.size m G') (t : Touch (fun k => k = m) w w') : Bo w0 w' p b m F G' := by
  obtain ⟨v, l, -, hm, -⟩ := h.rf.val
  obtain ⟨M, -, hb, -⟩ := h.at_.fil.held
  refine ⟨⟨h.at_.fil.keep' (t.block p h.at_.fil.lt ?_) (t.block b h.at_.fil.ltb ?_) fun k c e => t.block k (ltAt e) ?_, h.at_.lowp, h.at_.lowb, h.at_.bel.trans (t.below h.at_.bel.size fun k _ e => by rw [e]; exact h.rf.low)⟩, hr⟩
  · intro e
    have := h.at_.fil.head
    rw [e, hm] at this
    simp only [Option.some.injEq, Obj.cells.injEq] at this
    exact absurd this.2.1 (by decide)
  · intro e
    exact hb.not_cells (e ▸ hm)
  · rintro rfl
    rw [hm] at e
    simp only [Option.some.injEq, Obj.cells.injEq] at e
    exact absurd e.2.1 (by decide)

section
variable {w0 : World} {p b m : Nat} {F G : FilD}
theorem bo_put (v : Value) (r : RecD) (hl : r.dep.length ≤ 70) (hk : r.key.size ≤ 50) (hvl : r.val.size ≤ 50) (w : World) (h : Bo w0 w p b m F G) (hv : IsRec w v r) :
    Calls Try.prog 12 #[.pointer (some ⟨p, 0, none⟩), v] w fun e w' => e = .returned (.int .i64 (putE F r)) ∧ Bo w0 w' p b m (putF F r) G ∧ KeptB w w' :=
  (put_on v r _ _ rfl rfl hl hk hvl w h.at_ hv).mono fun e w' ⟨h1, h2, h3⟩ => ⟨h1, h.one h2 h3, h3.b⟩
theorem bo_rput (v : Value) (r : RecD) (hl : r.dep.length ≤ 70) (hk : r.key.size ≤ 50) (hvl : r.val.size ≤ 50) (w : World) (h : Bo w0 w p b m F G) (hok : G.ok) (hv : IsRec w0 v r) :
    Calls Try.prog 13 #[.pointer (some ⟨m, 0, none⟩), v] w fun e w' => e = .returned (.int .i64 (putE G r)) ∧ Bo w0 w' p b m F (putF G r) ∧ KeptB w w' :=
  (refPut7_calls w0 _ m G v r _ _ rfl rfl w h.rf hok h.at_.bel h.size hv hl hk hvl hok.len).mono fun e w' ⟨h1, h2, h3⟩ => ⟨h1, h.two h2 h3, keptB_touch h.rf h3⟩
theorem bo_reset (n : Int) (w : World) (h : Bo w0 w p b m F G) :
    Calls Try.prog 18 #[.pointer (some ⟨p, 0, none⟩), .int .i64 n] w fun e w' => e = .returned (.int .i64 (resetE n)) ∧ Bo w0 w' p b m (resetF F n) G ∧ KeptB w w' :=
  (reset_on n _ _ rfl rfl w h.at_).mono fun e w' ⟨h1, h2, h3⟩ => ⟨h1, h.one h2 h3, h3.b⟩
theorem bo_rreset (n : Int) (w : World) (h : Bo w0 w p b m F G) :
    Calls Try.prog 19 #[.pointer (some ⟨m, 0, none⟩), .int .i64 n] w fun e w' => e = .returned (.int .i64 (resetE n)) ∧ Bo w0 w' p b m F (resetF G n) ∧ KeptB w w' :=
  (refReset7_calls w0 _ m G n _ _ rfl rfl w h.rf).mono fun e w' ⟨h1, h2, h3⟩ => ⟨h1, h.two h2 h3, keptB_touch h.rf h3⟩
theorem bo_first (o : Option RecD) (ho : firstF F = o) (w : World) (h : Bo w0 w p b m F G) :
    Calls Try.prog 21 #[.pointer (some ⟨p, 0, none⟩)] w fun e w' => ∃ v, e = .returned (.tuple #[v, .bool o.isSome]) ∧ OwnRec 0 w' v (o.getD zeroR) ∧ Bo w0 w' p b m F G ∧ KeptB w w' :=
  (first_on o ho w h.at_).mono fun e w' ⟨v, h1, h2, h3, h4⟩ => ⟨v, h1, h2, h.one h3 h4, h4.b⟩
theorem bo_rfirst (o : Option RecD) (ho : firstF G = o) (w : World) (h : Bo w0 w p b m F G) (hok : G.ok) :
    Calls Try.prog 22 #[.pointer (some ⟨m, 0, none⟩)] w fun e w' => ∃ v, e = .returned (.tuple #[v, .bool o.isSome]) ∧ IsRec w0 v (o.getD zeroR) ∧ Bo w0 w' p b m F G ∧ RowKit.Below w.heap.size w w' :=
  (refFirst7_calls w0 _ m G o ho w h.rf (by have := hok.len; omega)).mono fun e w' ⟨v, h1, h2, h3⟩ => ⟨v, h1, h2, h.new h3, h3⟩
theorem bo_rtake_none (ho : firstF G = none) (w : World) (h : Bo w0 w p b m F G) (hok : G.ok) :
    Calls Try.prog 16 #[.pointer (some ⟨m, 0, none⟩)] w fun e w' => ∃ v, e = .returned (.tuple #[v, .bool false]) ∧ IsRec w0 v zeroR ∧ Bo w0 w' p b m F G ∧ RowKit.Below w.heap.size w w' :=
  (refTake7_none w0 _ m G ho w h.rf (by have := hok.len; omega)).mono fun e w' ⟨v, h1, h2, h3⟩ => ⟨v, h1, h2, h.new h3, h3⟩
theorem bo_rtake (r : RecD) (ho : firstF G = some r) (w : World) (h : Bo w0 w p b m F G) (hok : G.ok) :
    Calls Try.prog 16 #[.pointer (some ⟨m, 0, none⟩)] w fun e w' => ∃ v, e = .returned (.tuple #[v, .bool true]) ∧ IsRec w0 v r ∧ Bo w0 w' p b m F (takeF G) ∧ KeptB w w' ∧ RowFrom w' m w.heap.size :=
  (refTake7_some w0 _ m G r ho w h.rf hok.len hok.next0 hok.next1 h.size).mono fun e w' ⟨v, h1, h2, h3, h4, h5⟩ => ⟨v, h1, h2, h.two h3 h4, keptB_touch h.rf h4, h5⟩
theorem bo_taken (most : Nat) (hm2 : most ≤ 9223372036854775807) (w : World) (h : Bo w0 w p b m F G) :
    Calls Try.prog 15 #[.pointer (some ⟨p, 0, none⟩), .int .i64 (most : Int)] w fun e w' => ∃ v, e = .returned (.tuple #[v, .bool true]) ∧ HasL w' v ((readyL F).take most) ∧ Bo w0 w' p b m (takesF (min most (readyL F).length) F) G ∧ KeptB w w' :=
  (taken_any most hm2 w h.at_).mono fun e w' ⟨v, h1, h2, h3, h4⟩ => ⟨v, h1, h2, h.one h3 h4, h4.b⟩
theorem bo_taken_none (most : Int) (hm : most ≤ 0) (w : World) (h : Bo w0 w p b m F G) :
    Calls Try.prog 15 #[.pointer (some ⟨p, 0, none⟩), .int .i64 most] w fun e w' => e = .returned (.tuple #[.slice none 0 0, .bool true]) ∧ Bo w0 w' p b m F G ∧ KeptB w w' :=
  (taken_none p b F most hm w h.at_.fil).mono fun e w' ⟨h1, h2⟩ => ⟨h1, h.new h2, (kept_below h2).b⟩
theorem bo_twin (w : World) (h : Bo w0 w p b m F G) :
    Calls Try.prog 20 #[.pointer (some ⟨p, 0, none⟩)] w fun e w' => ∃ p' b', e = .returned (.pointer (some ⟨p', 0, none⟩)) ∧ Bo w0 w' p b m F G ∧ Bo w0 w' p' b' m F G ∧ w.heap.size ≤ p' ∧ w.heap.size ≤ b' ∧ KeptB w w' :=
  (filTwin_calls p b F w h.at_.fil).mono fun e w' ⟨p', b', h1, h2, h3, h4, h5⟩ => ⟨p', b', h1, h.new h5, h.one ⟨h2, Nat.le_trans h.size h3, Nat.le_trans h.size h4, (h.new h5).at_.bel⟩ (kept_below h5), h3, h4, (kept_below h5).b⟩
theorem bo_next (w : World) (h : Bo w0 w p b m F G) :
    Calls Try.prog 24 #[.pointer (some ⟨p, 0, none⟩)] w fun e w' => e = .returned (.int .i64 F.next) ∧ w' = w := filNext_calls p b F w h.at_.fil
theorem bo_len (w : World) (h : Bo w0 w p b m F G) :
    Calls Try.prog 25 #[.pointer (some ⟨p, 0, none⟩)] w fun e w' => e = .returned (.int .i64 (F.L.length : Int)) ∧ w' = w := filLen_calls p b F w h.at_.fil
end

/-- Behind an append to a row: all cells of another type are as they were. -/
theorem grow_keep {X Y : World} {row : Option Nat} {T : TypeId} (hg : X.grownBy Y row) (hrow : ∀ r, row = some r → ∃ c, X.heap[r]? = some (.cells c T (0, 0))) {k : Nat} {o : Obj} (h : X.heap[k]? = some o) (ht : ∀ c, o ≠ .cells c T (0, 0)) : Y.heap[k]? = X.heap[k]? := by
  refine hg.block k (ltAt h) fun e => ?_
  obtain ⟨c, hc⟩ := hrow k e.symm
  rw [hc] at h
  exact ht c (by simpa using h.symm)
theorem own_cells {W : World} {B n s : Nat} {T : TypeId} {v : Value} {xs : List Value} (h : W.ownsRow B T s v n xs) {k : Nat} (e : v.ownBlock = some k) : ∃ c, W.heap[k]? = some (.cells c T (0, 0)) := by
  rcases h.2 with ⟨rfl, _⟩ | ⟨g, cap, cur, rfl, _, hg, _⟩
  · cases e
  · obtain rfl : g = k := by simpa [Value.ownBlock] using e
    exact ⟨cur, hg⟩
theorem cells_ne {c c' : Array Value} {t T : TypeId} {f f' : Nat × Nat} (h : t ≠ T) : Obj.cells c t f ≠ .cells c' T f' := fun e => by
  simp only [Obj.cells.injEq] at e
  exact h e.2.1
theorem Bo.grown {w0 X Y : World} {p b m C : Nat} {F G : FilD} {row : Option Nat} (h : Bo w0 X p b m F G) (hr : RowFrom X m C) (hg : X.grownBy Y row) (hrow : ∀ r, row = some r → ∃ c, X.heap[r]? = some (.cells c 41 (0, 0))) (hC : ∀ r, row = some r → r < C) (hb : RowKit.Below w0.heap.size w0 Y) : Bo w0 Y p b m F G := by
  obtain ⟨v, l, h1, hm, h3, h4⟩ := h.rf.val
  obtain ⟨s, r, n, v', hm', hC'⟩ := hr
  rw [hm] at hm'
  simp only [Option.some.injEq, Obj.cells.injEq, Array.mk.injEq, List.cons.injEq] at hm'
  obtain rfl : v = v' := hm'.1.2.2.2.1
  obtain ⟨M, -, ⟨es, clock, hmb, -⟩, -⟩ := h.at_.fil.held
  refine ⟨⟨h.at_.fil.keep' (grow_keep hg hrow h.at_.fil.head fun c => cells_ne (by decide)) (grow_keep hg hrow hmb fun c => by simp) (fun k c e => grow_keep hg hrow e fun c => cells_ne (by decide)), h.at_.lowp, h.at_.lowb, hb⟩, h.rf.low, v, l, h1, (grow_keep hg hrow hm fun c => cells_ne (by decide)).trans hm, ownsRow_of_heap h3 fun k e => hg.block k (h3.lt k e).2 fun e' => ?_, h4⟩
  have := hC' k e
  have := hC k e'.symm
  omega

end Go.Proofs.Ytompaldhnbcikaa

/- A region that draws its order: its first m operations come in whatever order, most of them reading what none of them writes (S says what); the others come behind them all, one by one. Own work; no statement. -/
set_option linter.unusedSimpArgs false
set_option linter.unusedVariables false
namespace Go.Proofs.Ytompaldhnbcikaa
open Go.RowKit

section
variable {P : Program} {ops : Array Oper} {Q : Exit → Act → World → Prop} {S : World → Prop} {m g : Nat}

/-- f operations more of the head, S behind each of them; then the tail. -/
def HeadT (P : Program) (ops : Array Oper) (Q : Exit → Act → World → Prop) (S : World → Prop) (m g : Nat) : Nat → Array Bool → Act → World → Prop
  | 0, d, a, w => (∀ j ∈ Region.ready .any ops d, m ≤ j) ∧ wpAny P .any ops Q g d a w
  | f + 1, d, a, w => Region.ready .any ops d ≠ [] ∧ ∀ i ∈ Region.ready .any ops d, wpOp P ops Q i (fun a' w' => S w' ∧ HeadT P ops Q S m g f (d.setIfInBounds i true) a' w') a w

theorem HeadT.any : ∀ (f : Nat) (d : Array Bool) (a : Act) (w : World), HeadT P ops Q S m g f d a w → wpAny P .any ops Q (f + g) d a w
  | 0, d, a, w, h => by rw [Nat.zero_add]; exact h.2
  | f + 1, d, a, w, h => by
    rw [Nat.add_right_comm]
    exact ⟨fun e => absurd e h.1, fun i hi => wpOp_mono (fun a' w' h' => HeadT.any f _ a' w' h'.2) (h.2 i hi)⟩

/-- Each operation from m on waits for each one ahead of m. -/
def waitsAll (ops : Array Oper) (m : Nat) : Bool := (List.range ops.size).all fun j => decide (j < m) || (List.range m).all fun i => Region.waitsFor .any ops j i

theorem waitsAll_spec (h : waitsAll ops m = true) {i j : Nat} (hi : i < m) (hj : m ≤ j) {d : Array Bool} (hd : d.getD i true = false) : j ∉ Region.ready .any ops d := by
  intro hr
  obtain ⟨hun, oj, hoj, hall⟩ := mem_ready.1 hr
  have hlt : j < ops.size := by
    rcases Nat.lt_or_ge j ops.size with h | h
    · exact h
    · rw [Array.getElem?_eq_none h] at hoj; cases hoj
  have h1 := List.all_eq_true.1 h j (List.mem_range.2 hlt)
  simp only [Bool.or_eq_true, decide_eq_true_eq, List.all_eq_true, List.mem_range] at h1
  rcases h1 with h1 | h1
  · omega
  · obtain ⟨oj', hoj', e, he, hb, hon⟩ := Region.waitsFor_spec (h1 i hi)
    rw [hoj] at hoj'
    cases hoj'
    have := hall e he hb
    rw [hon] at this
    rcases Nat.lt_or_ge i d.size with h' | h'
    · simp [h'] at hd this
      rw [hd] at this
      cases this
    · simp [Array.getElem?_eq_none h'] at this

theorem HeadT.first {i : Nat} {oi : Oper} {v : Value} (hi : ops[i]? = some oi) (him : i < m) (hwa : waitsAll ops m = true) (hsel : ∀ (j : Nat) (o : Oper) cs b, ops[j]? = some o → o.op ≠ .select cs b)
    (hQ : ∀ c a w, Q (.panic c) (a.put oi.dst v) w → Q (.panic c) a w) :
    ∀ (f : Nat) (d : Array Bool) (a : Act) (w : World),
      (∀ j oj, ops[j]? = some oj → j ≠ i → d.getD j true = false → (∀ e ∈ oj.after, Region.binds .any e = true → e.on ≠ i) → oi.apart ops oj = true) →
      i ∈ Region.ready .any ops d → YieldsIf P ops S oi v a → S w → HeadT P ops Q S m g f (d.setIfInBounds i true) (a.put oi.dst v) w → HeadT P ops Q S m g (f + 1) d a w := by
  intro f
  induction f with
  | zero =>
    intro d a w _ hr hy hS H
    refine ⟨fun h => (by rw [h] at hr; cases hr), fun j hj => ?_⟩
    by_cases hji : j = i
    · subst hji; exact hy.wpOp hi hS ⟨hS, H⟩
    · have h1 := H.1 j (ready_mono hj hji)
      exact absurd hj (waitsAll_spec hwa him h1 (mem_ready.1 hr).1)
  | succ f ih =>
    intro d a w hfree hr hy hS H
    refine ⟨fun h => (by rw [h] at hr; cases hr), fun j hj => ?_⟩
    by_cases hji : j = i
    · subst hji; exact hy.wpOp hi hS ⟨hS, H⟩
    · have h1 := H.2 j (ready_mono hj hji)
      obtain ⟨hjun, oj, hoj, hall⟩ := mem_ready.1 hj
      have hnot : ∀ e ∈ oj.after, Region.binds .any e = true → e.on ≠ i := fun e he hb heq => by
        have h1 := hall e he hb
        have h0 := (mem_ready.1 hr).1
        rw [heq] at h1
        rcases Nat.lt_or_ge i d.size with h' | h'
        · simp [h'] at h0 h1; rw [h0] at h1; cases h1
        · simp [Array.getElem?_eq_none h'] at h1
      have h2 := wpOp_putIf hoj (hfree j oj hoj hji hjun hnot) (fun cs b => hsel i oi cs b hi) (fun cs b => hsel j oj cs b hoj) hQ hy h1
      have hfree' : ∀ k ok, ops[k]? = some ok → k ≠ i → (d.setIfInBounds j true).getD k true = false →
          (∀ e ∈ ok.after, Region.binds .any e = true → e.on ≠ i) → oi.apart ops ok = true := fun k ok hk hki hun hno => by
        refine hfree k ok hk hki ?_ hno
        by_cases hjk : j = k
        · subst hjk; exact hjun
        · rw [getD_set_ne true hjk] at hun; exact hun
      refine wpOp_mono (fun a' w' h3 => ⟨h3.2.1, ih (d.setIfInBounds j true) a' w' hfree' (ready_mono hr (Ne.symm hji)) h3.1 h3.2.1 ?_⟩) h2
      rw [Array.setIfInBounds_comm _ _ hji]
      exact h3.2.2

/-- No panic. -/
def noPanic (Q : Exit → Act → World → Prop) : Exit → Act → World → Prop
  | .panic _, _, _ => False
  | e, a, w => Q e a w

theorem noPanic_imp (e : Exit) (a : Act) (w : World) (h : noPanic Q e a w) : Q e a w := by
  cases e <;> first | exact h | exact h.elim

/-- Number i reads: it is taken first. -/
theorem HeadT.take (i : Nat) {oi : Oper} (v : Value) {f : Nat} {d : Array Bool} {a : Act} {w : World} (hi : ops[i]? = some oi) (hb : (decide (i < m) && waitsAll ops m && Region.noSelect ops && Region.free .any ops d i && (Region.ready .any ops d).contains i) = true)
    (hy : YieldsIf P ops S oi v a) (hS : S w)
    (h : HeadT P ops (noPanic Q) S m g f (d.setIfInBounds i true) (a.put oi.dst v) w) : HeadT P ops (noPanic Q) S m g (f + 1) d a w := by
  simp only [Bool.and_eq_true, decide_eq_true_eq] at hb
  obtain ⟨⟨⟨⟨h1, h2⟩, h3⟩, h4⟩, h5⟩ := hb
  exact HeadT.first hi h1 h2 (Region.noSelect_spec h3) (fun _ _ _ h => h) f d a w (Region.free_spec hi h4) (by simpa using h5) hy hS h

/-- Number i alone may come up. -/
theorem HeadT.only (i : Nat) {f : Nat} {d : Array Bool} {a : Act} {w : World} (hr : Region.ready .any ops d = [i]) (h : wpOp P ops Q i (fun a' w' => S w' ∧ HeadT P ops Q S m g f (d.setIfInBounds i true) a' w') a w) : HeadT P ops Q S m g (f + 1) d a w :=
  ⟨by rw [hr]; simp, fun j hj => by rw [hr] at hj; obtain rfl : j = i := (by simpa using hj); exact h⟩

/-- The head is done. -/
theorem HeadT.tail {l : List Oper} {d : Array Bool} {a : Act} {w : World} (hl : (l.drop m).length = g) (hs : Region.seqB .any l.toArray g m d = true) (h : wpList P l.toArray Q (l.drop m) a w) : HeadT P l.toArray Q S m g 0 d a w := by
  refine ⟨seqB_ready hs, ?_⟩
  subst hl
  exact wpAny_of_seq (l.drop m) m d a w (fun j => by simp [List.getElem?_drop]) hs h

theorem region_headT {id : Nat} {a : Act} {w : World} {l : List Oper} (m : Nat) (S : World → Prop) (hm : P.follows .mixedOrders = true) (hle : m ≤ l.length) (h : HeadT P l.toArray (noPanic Q) S m (l.length - m) m (Array.replicate l.toArray.size false) a w.drew) : (Code.region id l.toArray true).wp P Q a w := by
  refine wp_mono (Q := noPanic Q) (wp_region_any hm ?_) noPanic_imp
  have := HeadT.any m _ a _ h
  rw [show m + (l.length - m) = l.toArray.size by simp; omega] at this
  exact this

/-- An operation that answers a value, as the one that comes up. -/
theorem wpOp_val {i : Nat} {o : Oper} {K : Act → World → Prop} {a : Act} {w w' : World} {v : Value} (hi : ops[i]? = some o) (hg : o.guard = none) (hrun : (execOp a.eval o).run P w = .ok (.value v) w') (hK : K (a.put o.dst v) w') : wpOp P ops Q i K a w := by
  unfold wpOp
  simp only [hi]
  rw [if_pos (by simp [Region.wanted, hg])]
  refine .inl ?_
  unfold Oper.wp
  rw [hrun]
  exact hK

/-- A call of a Go function, as the one that comes up. -/
theorem wpOp_call {i : Nat} {o : Oper} {K : Act → World → Prop} {a : Act} {w : World} (hi : ops[i]? = some o) (hg : o.guard = none) (f : FuncId) (args : Array Value) {R : Ending → World → Prop} (hrun : (execOp a.eval o).run P w = .ok (.enter f args) w) (hc : Calls P f args w R)
    (hR : ∀ e w', R e w' → ∃ v, e = .returned v ∧ K (a.put o.dst v) w') : wpOp P ops Q i K a w := by
  unfold wpOp
  simp only [hi]
  rw [if_pos (by simp [Region.wanted, hg])]
  refine .inl ?_
  unfold Oper.wp
  rw [hrun]
  simp only [Oper.upon]
  refine hc.mono fun e w' h => ?_
  obtain ⟨v, rfl, hk⟩ := hR e w' h
  exact hk
end

end Go.Proofs.Ytompaldhnbcikaa
