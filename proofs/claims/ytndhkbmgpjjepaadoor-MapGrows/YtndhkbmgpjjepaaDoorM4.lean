/- stripe's Text. Own work; no statement. -/
import Derived.Test.YtndhkbmgpjjepaaDoorM3
import Derived.Test.YtndhkbmgpjjepaaDoorW7
set_option linter.unusedSimpArgs false
set_option linter.unusedVariables false
namespace Go.Proofs.YtndhkbmgpjjepaaDoor
open Go.RowKit Go.Shelf

/-- A span in words. -/
def spanB (x : Int × Int) : List UInt8 := Lib.itoa x.1 ++ ([47] ++ Lib.itoa x.2)
/-- The first k spans in words, with blanks between. -/
def spansTo (m : MapD) : Nat → List UInt8
  | 0 => []
  | k + 1 => spansTo m k ++ ((if k = 0 then [] else [32]) ++ spanB (m.getD k (0, 0)))
/-- A map in words. -/
def textM (m : MapD) : List UInt8 := spansTo m m.length

theorem getD_mapR {m : MapD} (h : MapR m) (k : Nat) : (-9223372036854775808 ≤ (m.getD k (0, 0)).1 ∧ (m.getD k (0, 0)).1 ≤ 9223372036854775807) ∧ (-9223372036854775808 ≤ (m.getD k (0, 0)).2 ∧ (m.getD k (0, 0)).2 ≤ 9223372036854775807) := by
  by_cases hk : k < m.length
  · rw [List.getD_eq_getElem?_getD, List.getElem?_eq_getElem hk]
    exact h _ (List.getElem_mem hk)
  · rw [List.getD_eq_getElem?_getD, List.getElem?_eq_none (by omega)]
    simp

theorem spanB_length {x : Int × Int} (h : (-9223372036854775808 ≤ x.1 ∧ x.1 ≤ 9223372036854775807) ∧ (-9223372036854775808 ≤ x.2 ∧ x.2 ≤ 9223372036854775807)) : (spanB x).length ≤ 43 := by
  have h1 := Lib.itoa_length_le x.1 h.1.1 h.1.2
  have h2 := Lib.itoa_length_le x.2 h.2.1 h.2.2
  simp only [spanB, List.length_append, List.length_cons, List.length_nil]
  omega
theorem spansTo_length {m : MapD} (h : MapR m) : ∀ k, (spansTo m k).length ≤ 44 * k
  | 0 => by simp [spansTo]
  | k + 1 => by
    have h1 := spansTo_length h k
    have h2 := spanB_length (getD_mapR h k)
    have h3 : ((if k = 0 then [] else [32] : List UInt8)).length ≤ 1 := by split <;> simp
    simp only [spansTo, List.length_append]
    omega
theorem len_snoc (l : List UInt8) (c : UInt8) : (l ++ [c]).length = l.length + 1 := by simp
theorem snoc47 (l : List UInt8) : Lib.byteCells l ++ [.int .u8 47] = Lib.byteCells (l ++ [47]) := by simp [Lib.byteCells]

/-- What is no row of e's lies as it lay when a row of e's grows. -/
theorem kept_row {W W' : World} {B : Nat} {e : TypeId} {s : Nat} {v : Value} {n : Nat} {xs : List Value} {k : Nat} {o : Obj} (hown : W.ownsRow B e s v n xs) (hg : W.grownBy W' v.ownBlock) (hk : W.heap[k]? = some o) (ho : ∀ c fz, o ≠ .cells c e fz) : W'.heap[k]? = some o :=
  (Lib.OthersKept.refl e none W).grown hg (fun g hg' => by
    rcases hown.2 with ⟨rfl, _⟩ | ⟨g', cap, cur, rfl, _, h, _⟩
    · cases hg'
    · cases hg'
      exact ⟨_, _, h⟩) k o hk (fun e => by cases e) ho
theorem notU8 {x y : Value} : ∀ c fz, Obj.cells #[x, y] 48 (0, 0) ≠ .cells c 5 fz := fun c fz e => by
  simp only [Obj.cells.injEq] at e
  exact absurd e.2.1 (by decide)
theorem app_u8 {W W0 w1 : World} {B : Nat} {v : Value} {L : List UInt8} {k : Nat} {o : Obj} (hB : Below B W0 W) (hBs : B ≤ W.heap.size) (hown : W.ownsRow B 5 1 v L.length (Lib.byteCells L)) (hk : W.heap[k]? = some o) (ho : ∀ c fz, o ≠ .cells c 5 fz) (x : Value) (hgrow : (W.alloc (.cells #[x] 5)).grownBy w1 v.ownBlock) : Below B W0 w1 ∧ w1.heap[k]? = some o := by
  have hown' := World.ownsRow.alloc hown (.cells #[x] 5)
  exact ⟨(hB.alloc hBs _).grown hgrow (by simp; omega) (fun j hj => (hown.lt j hj).1), kept_row hown' hgrow ((Below.heap_alloc _ _ _ (ltAt hk)).trans hk) ho⟩

set_option maxHeartbeats 2000000 in
set_option maxRecDepth 20000 in
theorem mapText_calls (v : Value) (m : MapD) (w : World) (hv : IsMap w v m) (hl : m.length ≤ 4294967296) (hr : MapR m) (hp : Pow w) :
    Calls Tryd.prog 17 #[v] w fun e w' => e = .returned (.string ⟨(textM m).toArray⟩) ∧ Below w.heap.size w w' := by
  obtain ⟨i0, hi, hz0, hz1, hz2⟩ := info_parts Tryd.info5
  have Hv := hide hv
  obtain ⟨a, cap, rfl⟩ := hv.slice
  have HR := hide hr
  have HP := hide hp
  clear hv hr hp
  go_enter Tryd.func17, Tryd.ntmps17
  go_wp2_with fail
  go_loopw [3, 8] (fun v i wr => ∃ k : Nat, i = .int .i64 (k : Int) ∧ k ≤ m.length ∧ wr.ownsRow w.heap.size 5 1 v (spansTo m k).length (Lib.byteCells (spansTo m k)) ∧ Below w.heap.size w wr) (fun _ i _ => m.length - (intOf i).toNat)
  case atStart => exact ⟨0, rfl, Nat.zero_le _, World.ownsRow_nil _ _ _ _, Below.refl _ _⟩
  case round =>
    obtain ⟨k, rfl, hkn, hown, hB⟩ := hrel
    have hnl := spansTo_length HR.out k
    have hbs := hB.size
    by_cases hk : k < m.length
    · have hlt : (k : Int) < (m.length : Int) := by omega
      obtain ⟨-, b, o, rfl, hbw, c0, c1⟩ := Hv.out.at k hk
      replace c0 : wr.cell? ⟨b, o + k * 2, none⟩ = _ := (hB.cell (p := ⟨b, o + k * 2, none⟩) hbw).trans c0
      replace c1 : wr.cell? ⟨b, o + k * 2 + 1, none⟩ = _ := (hB.cell (p := ⟨b, o + k * 2 + 1, none⟩) hbw).trans c1
      have hxr := getD_mapR HR.out k
      have hsucc : spansTo m (k + 1) = spansTo m k ++ ((if k = 0 then [] else [32]) ++ spanB (m.getD k (0, 0))) := rfl
      generalize m.getD k (0, 0) = x at *
      obtain ⟨p, q⟩ := x
      dsimp only at *
      obtain ⟨L, hL⟩ : ∃ L, spansTo m k = L := ⟨_, rfl⟩
      rw [hL] at hown hnl hsucc
      unfold spanB at hsucc
      have hpl := Lib.itoa_length_le p hxr.1.1 hxr.1.2
      have hql := Lib.itoa_length_le q hxr.2.1 hxr.2.2
      have Hsucc := hide hsucc
      have Hxr := hide hxr
      clear hsucc hL hxr Hv HR
      have hwa := World.alloc_heap_new wr (.cells #[.int .i64 p, .int .i64 q] 48)
      have hBa : Below w.heap.size w (wr.alloc (.cells #[.int .i64 p, .int .i64 q] 48)) := hB.alloc hB.size _
      have howna := World.ownsRow.alloc hown (.cells #[.int .i64 p, .int .i64 q] 48)
      have hsa : (wr.alloc (.cells #[.int .i64 p, .int .i64 q] 48)).heap.size = wr.heap.size + 1 := by simp
      have hsb : w.heap.size ≤ (wr.alloc (.cells #[.int .i64 p, .int .i64 q] 48)).heap.size := by omega
      by_cases hk0 : k = 0
      · have hk1 : ¬ 0 < (k : Int) := by omega
        rw [if_pos hk0] at Hsucc
        have Hk0 := hide hk0
        clear hk0
        go_wp2_with (first | (go_at_call 25; refine (Tryd.strconv_AppendInt_10 w.heap.size _ p Hxr.out.1.1 Hxr.out.1.2 _ _ _ howna hsb (by (try simp only [List.length_append, List.length_cons, List.length_nil]); omega) (Lib.TabBelow.on HP.out hBa)).mono ?_; rintro e w1 ⟨v1, rfl, hown1, hT1, hO1⟩; rw [← Lib.byteCells_append, ← List.length_append] at hown1; have hB1 : Below w.heap.size w w1 := hBa.trans hT1; have hs1 := hB1.size; have hw1 := hO1 _ _ hwa (fun e => by cases e) notU8; have d1 := cellsAt hw1 0; have e1 := cellsAt hw1 1; simp only [List.getElem?_toArray, List.getElem?_cons_zero, List.getElem?_cons_succ] at d1 e1; clear howna hT1 hO1) | (at_builtin; refine wpList_append_own _ rfl (.tmp 22) _ 57 rfl w.heap.size 5 i0 (.int .u8 0) 1 1 Tryd.underlying57 hi hz0 hz1 hz2 rfl (by decide) _ _ _ rfl (World.ownsRow.alloc hown1 _) ⟨_, 0, none⟩ 1 1 [.int .u8 47] rfl rfl (cell_one_at (by simp)) (by intro u hu; simp at hu; subst hu; rfl) (by unfold maxLen; (try simp only [List.length_append, List.length_cons, List.length_nil]); omega) (by (try simp only [List.length_append, List.length_cons, List.length_nil]); omega) (by simp; omega) ?_; intro v2 w2 hown2 hg2 _; rw [snoc47, ← len_snoc _ 47] at hown2; obtain ⟨hB2, hw2⟩ := app_u8 hB1 hs1 hown1 hw1 notU8 _ hg2; have hs2 := hB2.size; have d2 := cellsAt hw2 0; have e2 := cellsAt hw2 1; simp only [List.getElem?_toArray, List.getElem?_cons_zero, List.getElem?_cons_succ] at d2 e2; clear hown1 hg2) | (go_at_call 25; refine (Tryd.strconv_AppendInt_10 w.heap.size _ q Hxr.out.2.1 Hxr.out.2.2 _ _ _ hown2 hs2 (by (try simp only [List.length_append, List.length_cons, List.length_nil]); omega) (Lib.TabBelow.on HP.out hB2)).mono ?_; rintro e w3 ⟨v3, rfl, hown3, hT3, hO3⟩; rw [← Lib.byteCells_append, ← List.length_append] at hown3; have hB3 : Below w.heap.size w w3 := hB2.trans hT3; have hs3 := hB3.size; have hw3 := hO3 _ _ hw2 (fun e => by cases e) notU8; have d3 := cellsAt hw3 0; have e3 := cellsAt hw3 1; simp only [List.getElem?_toArray, List.getElem?_cons_zero, List.getElem?_cons_succ] at d3 e3; clear hown2 hT3 hO3))
        refine ⟨⟨k + 1, by go_num, by omega, ?_, hB3⟩, by simp [intOf]; omega⟩
        rw [Hsucc.out]
        simpa only [List.nil_append, List.append_assoc] using hown3
      · have hk1 : 0 < (k : Int) := by omega
        rw [if_neg hk0] at Hsucc
        go_wp2_with (first | (at_builtin; refine wpList_append_own _ rfl (.tmp 15) _ 57 rfl w.heap.size 5 i0 (.int .u8 0) 1 1 Tryd.underlying57 hi hz0 hz1 hz2 rfl (by decide) _ _ _ rfl (World.ownsRow.alloc howna _) ⟨_, 0, none⟩ 1 1 [.int .u8 32] rfl rfl (cell_one_at (by simp)) (by intro u hu; simp at hu; subst hu; rfl) (by unfold maxLen; (try simp only [List.length_append, List.length_cons, List.length_nil]); omega) (by (try simp only [List.length_append, List.length_cons, List.length_nil]); omega) (by simp; omega) ?_; intro v0 w0 hown0 hg0 _; rw [snoc32, ← len_snoc _ 32] at hown0; obtain ⟨hB0, hw0⟩ := app_u8 hBa hsb howna hwa notU8 _ hg0; have hs0 := hB0.size; have d0 := cellsAt hw0 0; have e0 := cellsAt hw0 1; simp only [List.getElem?_toArray, List.getElem?_cons_zero, List.getElem?_cons_succ] at d0 e0; clear howna hg0) | (go_at_call 25; refine (Tryd.strconv_AppendInt_10 w.heap.size _ p Hxr.out.1.1 Hxr.out.1.2 _ _ _ hown0 hs0 (by (try simp only [List.length_append, List.length_cons, List.length_nil]); omega) (Lib.TabBelow.on HP.out hB0)).mono ?_; rintro e w1 ⟨v1, rfl, hown1, hT1, hO1⟩; rw [← Lib.byteCells_append, ← List.length_append] at hown1; have hB1 : Below w.heap.size w w1 := hB0.trans hT1; have hs1 := hB1.size; have hw1 := hO1 _ _ hw0 (fun e => by cases e) notU8; have d1 := cellsAt hw1 0; have e1 := cellsAt hw1 1; simp only [List.getElem?_toArray, List.getElem?_cons_zero, List.getElem?_cons_succ] at d1 e1; clear hown0 hT1 hO1) | (at_builtin; refine wpList_append_own _ rfl (.tmp 22) _ 57 rfl w.heap.size 5 i0 (.int .u8 0) 1 1 Tryd.underlying57 hi hz0 hz1 hz2 rfl (by decide) _ _ _ rfl (World.ownsRow.alloc hown1 _) ⟨_, 0, none⟩ 1 1 [.int .u8 47] rfl rfl (cell_one_at (by simp)) (by intro u hu; simp at hu; subst hu; rfl) (by unfold maxLen; (try simp only [List.length_append, List.length_cons, List.length_nil]); omega) (by (try simp only [List.length_append, List.length_cons, List.length_nil]); omega) (by simp; omega) ?_; intro v2 w2 hown2 hg2 _; rw [snoc47, ← len_snoc _ 47] at hown2; obtain ⟨hB2, hw2⟩ := app_u8 hB1 hs1 hown1 hw1 notU8 _ hg2; have hs2 := hB2.size; have d2 := cellsAt hw2 0; have e2 := cellsAt hw2 1; simp only [List.getElem?_toArray, List.getElem?_cons_zero, List.getElem?_cons_succ] at d2 e2; clear hown1 hg2) | (go_at_call 25; refine (Tryd.strconv_AppendInt_10 w.heap.size _ q Hxr.out.2.1 Hxr.out.2.2 _ _ _ hown2 hs2 (by (try simp only [List.length_append, List.length_cons, List.length_nil]); omega) (Lib.TabBelow.on HP.out hB2)).mono ?_; rintro e w3 ⟨v3, rfl, hown3, hT3, hO3⟩; rw [← Lib.byteCells_append, ← List.length_append] at hown3; have hB3 : Below w.heap.size w w3 := hB2.trans hT3; have hs3 := hB3.size; have hw3 := hO3 _ _ hw2 (fun e => by cases e) notU8; have d3 := cellsAt hw3 0; have e3 := cellsAt hw3 1; simp only [List.getElem?_toArray, List.getElem?_cons_zero, List.getElem?_cons_succ] at d3 e3; clear hown2 hT3 hO3))
        refine ⟨⟨k + 1, by go_num, by omega, ?_, hB3⟩, by simp [intOf]; omega⟩
        rw [Hsucc.out]
        simpa only [List.nil_append, List.append_assoc] using hown3
    · obtain ⟨pa, ca, rfl⟩ := ownsRow_slice hown
      have hcv := conv_row (dst := 9) hown Tryd.underlying57 Tryd.underlying5 Tryd.underlying9
      go_wp2
      go_ret
      have e : k = m.length := by omega
      subst e
      exact ⟨rfl, hB⟩

end Go.Proofs.YtndhkbmgpjjepaaDoor
