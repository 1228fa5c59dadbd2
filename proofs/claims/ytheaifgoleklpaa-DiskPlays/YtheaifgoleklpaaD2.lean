/- disk's Write, Twin, Lines. Own work; no statement. -/
import Derived.Test.YtheaifgoleklpaaD1
import Derived.Deep.RegionHeld3
import Derived.Deep.RegionLaw
import Derived.Deep.AppendLies
import Derived.StillTailTactics
set_option linter.unusedSimpArgs false
set_option linter.unusedVariables false
namespace Go.Proofs.Ytheaifgoleklpaa
open Go.RowKit Go.Shelf

theorem Try.info9 : (Try.prog.info? 9).map (fun i => (i.zero, i.size, i.bytes)) = some (some (.string ⟨#[]⟩), 1, 16) := by kernel_rfl

set_option maxHeartbeats 400000 in
theorem strClone_calls (s : ByteArray) (w : World) (hs : s.size ≤ 1099511627776) :
    Calls Try.prog 30 #[.string s] w fun e w' => e = .returned (.string s) ∧ Below w.heap.size w w' := by
  have Ci := hide (Try.stringslite_Clone s w (by omega))
  go_enter Try.func30, Try.ntmps30
  go_wp2_with (go_at_call 36; refine Ci.out.mono ?_; rintro e w' ⟨rfl, hB⟩)
  go_ret
  exact ⟨rfl, hB⟩

theorem cloneStrs_calls (B : Nat) (v : Value) (l : List ByteArray) (w : World) (hr : w.ownsRow B 9 1 v l.length (l.map Value.string)) (hl : l.length ≤ 1099511627776) :
    Calls Try.prog 33 #[v] w fun e w' => ∃ v', e = .returned v' ∧ w'.ownsRow w.heap.size 9 1 v' l.length (l.map Value.string) ∧ Below w.heap.size w w' := by
  rcases hr.2 with ⟨rfl, h0⟩ | ⟨g, cap, cur, rfl, hb, hg, hnc, hcm, hcs, ht⟩
  · have e : l = [] := List.eq_nil_of_length_eq_zero h0
    subst e
    refine (Try.slices_Clone_string_nil 0 0 w).mono ?_
    rintro e w' ⟨rfl, rfl⟩
    exact ⟨_, rfl, World.ownsRow_nil _ _ _ _, Below.refl _ _⟩
  · refine (Try.slices_Clone_string g 0 l.length cap l w (Nat.le_refl _) (by omega) ?_).mono ?_
    · intro j hj
      rw [Nat.zero_add, hr.cellAt j (by omega)]
      simp [hj]
    · rintro e w' ⟨v', rfl, hown, -, hB⟩
      rw [List.take_of_length_le (Nat.le_refl _)] at hown
      exact ⟨v', rfl, hown, hB⟩

/-- Has a text a line's end in it? -/
def hasEnd (s : ByteArray) : Bool := decide (10 ∈ s.data.toList)

theorem indexByte_ends (s : ByteArray) : (0 ≤ Lib.indexByte s.data.toList 10) ↔ hasEnd s = true := by
  unfold hasEnd
  rw [decide_eq_true_eq]
  generalize s.data.toList = l
  induction l with
  | nil => simp [Lib.indexByte]
  | cons x r ih =>
    simp only [Lib.indexByte, List.mem_cons]
    by_cases h : x = 10
    · simp [h]
    · have h2 : ¬ (10 : UInt8) = x := fun e => h e.symm
      have h3 : (x == 10) = false := by simp [h]
      simp only [h3, h2, false_or, Bool.false_eq_true, if_false, beq_iff_eq]
      rw [← ih]
      have := Lib.indexByte_ge r 10
      split <;> omega

/-- What Write answers; what it makes of a disk. -/
def writeE (D : DiskD) (s : ByteArray) : Int := if hasEnd s = true then 2 else if D.room - (bytesOf D.lines : Int) < (s.size : Int) + 1 then 6 else 0
def writeD (D : DiskD) (s : ByteArray) : DiskD := if writeE D s = 0 then ⟨D.room, D.lines ++ [s], D.lasts⟩ else D


/-- The line is put behind the others: memory. -/
theorem write_mem {w w1 w2 : World} {B p : Nat} {g : Option Nat} {D : DiskD} {s : ByteArray} {a : Option Addr} {cap g1 cap1 : Nat} {o : Obj} (hd : IsDisk w B p g D) (hB1 : Below w.heap.size w w1)
    (hv : (Value.slice a D.lines.length cap).ownBlock = g) (hp : w.heap[p]? = some (.cells #[.int .i64 D.room, .int .i64 (bytesOf D.lines), .int .i64 D.lasts, .slice a D.lines.length cap] 58 (0, 0)))
    (hr : w.ownsRow B 9 1 (.slice a D.lines.length cap) D.lines.length (D.lines.map Value.string))
    (hown : w2.ownsRow B 9 1 (.slice (some ⟨g1, 0, none⟩) (D.lines.length + 1) cap1) (D.lines.length + 1) (D.lines.map Value.string ++ [.string s])) (hgrow : (w1.alloc o).grownBy w2 (Value.slice a D.lines.length cap).ownBlock)
    (hat : (Value.slice a D.lines.length cap).ownBlock = some g1 ∨ g1 = w1.heap.size + 1) (hroom : (bytesOf D.lines : Int) + ((s.size : Int) + 1) ≤ D.room) :
    w2.heap[p]? = some (.cells #[.int .i64 D.room, .int .i64 (bytesOf D.lines), .int .i64 D.lasts, .slice a D.lines.length cap] 58 (0, 0)) ∧
    IsDisk ((w2.setCell ⟨p, 3, none⟩ (.slice (some ⟨g1, 0, none⟩) (D.lines.length + 1) cap1)).setCell ⟨p, 1, none⟩ (.int .i64 ((bytesOf D.lines : Int) + ((s.size : Int) + 1)))) B p (some g1) ⟨D.room, D.lines ++ [s], D.lasts⟩ ∧
    Touch (onDisk p g) w ((w2.setCell ⟨p, 3, none⟩ (.slice (some ⟨g1, 0, none⟩) (D.lines.length + 1) cap1)).setCell ⟨p, 1, none⟩ (.int .i64 ((bytesOf D.lines : Int) + ((s.size : Int) + 1)))) ∧ (g = some g1 ∨ w.heap.size ≤ g1) := by
  have hlt := ltAt hp
  have hs1 := hB1.size
  have hne : some p ≠ (Value.slice a D.lines.length cap).ownBlock := fun e => by
    rcases hr.2 with ⟨h0, _⟩ | ⟨g', cap', cur, h0, _, hg', _⟩
    · rw [h0] at e; cases e
    · rw [h0] at e
      obtain rfl : p = g' := by simpa [Value.ownBlock] using e
      rw [hp] at hg'
      simp at hg'
  have hp2 : w2.heap[p]? = some (.cells #[.int .i64 D.room, .int .i64 (bytesOf D.lines), .int .i64 D.lasts, .slice a D.lines.length cap] 58 (0, 0)) :=
    (hgrow.block p (by simp; omega) hne).trans ((Below.heap_alloc _ _ _ (by omega)).trans ((hB1.block p hlt).trans hp))
  have hg1 : g = some g1 ∨ w.heap.size ≤ g1 := by
    rcases hat with e | e
    · exact .inl (hv.symm.trans e)
    · exact .inr (by omega)
  have hpg : g1 ≠ p := fun e => by
    rcases hg1 with h | h
    · rw [← hv, e] at h; exact hne h.symm
    · omega
  have hb : ((bytesOf (D.lines ++ [s]) : Nat) : Int) = (bytesOf D.lines : Int) + ((s.size : Int) + 1) := by rw [bytesOf_append]; simp [bytesOf]
  refine ⟨hp2, ⟨⟨hd.ok.low, hd.ok.high, by rw [hb]; exact hroom, by have := hd.ok.lasts; simp; omega⟩, hd.low, .slice (some ⟨g1, 0, none⟩) (D.lines.length + 1) cap1, rfl, ?_, ?_⟩, ?_, hg1⟩
  · have := setAt (j := 1) (setAt (j := 3) hp2 (.slice (some ⟨g1, 0, none⟩) (D.lines.length + 1) cap1)) (.int .i64 ((bytesOf D.lines : Int) + ((s.size : Int) + 1)))
    dsimp only
    rw [hb]
    simpa using this
  · have e1 : (D.lines ++ [s]).length = D.lines.length + 1 := by simp
    have e2 : (D.lines ++ [s]).map Value.string = D.lines.map Value.string ++ [.string s] := by simp
    dsimp only
    rw [e1, e2]
    exact ownsRow_of_heap hown fun k hk => by
      obtain rfl : g1 = k := by simpa [Value.ownBlock] using hk
      exact (Below.heap_setCell _ _ _ _ hpg).trans (Below.heap_setCell _ _ _ _ hpg)
  · refine Touch.set (Touch.set ?_ _ _ (.inl rfl)) _ _ (.inl rfl)
    exact ((touch_new hB1).alloc o).next (S1 := fun k => (Value.slice a D.lines.length cap).ownBlock = some k) ⟨hgrow.os, hgrow.tape, hgrow.output, hgrow.size, fun k hk hn => hgrow.block k hk fun e => hn e.symm⟩ fun i _ e => .inr (hv ▸ e)

set_option maxRecDepth 100000 in
set_option maxHeartbeats 4000000 in
theorem diskWrite_calls (B p : Nat) (g : Option Nat) (D : DiskD) (s : ByteArray) (w : World) (hd : IsDisk w B p g D) (hB : B ≤ w.heap.size) (hs : s.size ≤ 1099511627776) :
    Calls Try.prog 12 #[.pointer (some ⟨p, 0, none⟩), .string s] w fun e w' => e = .returned (.int .i64 (writeE D s)) ∧ ∃ g', IsDisk w' B p g' (writeD D s) ∧ Touch (onDisk p g) w w' ∧ (∀ k, g' = some k → g = some k ∨ w.heap.size ≤ k) := by
  obtain ⟨i0, hi0, hz0, hz1, hz2⟩ := info_parts Try.info9
  obtain ⟨a, cap, c0, c1, c2, c3, hf, hv, hr, hp⟩ := hd.open
  have hl := hd.len
  have hk0 := hd.ok.low
  have hk1 := hd.ok.high
  have u1 := hide (fun w => Try.strings_IndexByte s 10 w)
  rw [show ((10 : Int).toNat.toUInt8 : UInt8) = 10 from rfl] at u1
  have hie := indexByte_ends s
  have hge := Lib.indexByte_ge s.data.toList 10
  generalize Lib.indexByte s.data.toList 10 = i at *
  have f3 := hf 3
  have f1 := hf 1
  have Hd := hide hd
  have Hr := hide hr
  have Hp := hide hp
  have Hv := hide hv
  have HB := hide hB
  clear hd hf hr hp hv hB
  by_cases he : hasEnd s = true
  · have hi : 0 ≤ i := hie.2 he
    have e0 : writeE D s = 2 := by unfold writeE; rw [if_pos he]
    have e1 : writeD D s = D := by unfold writeD; rw [e0, if_neg (by decide)]
    rw [e0, e1]
    clear e0 e1 he hie
    go_enter Try.func12, Try.ntmps12
    go_wp2_with (go_at_call 28; refine (u1.out _).mono ?_; rintro e w' ⟨rfl, rfl⟩)
    go_ret
    exact ⟨rfl, g, Hd.out, Touch.refl _ _, fun k h => .inl h⟩
  · have hi : ¬ 0 ≤ i := fun h => he (hie.1 h)
    have u2 := hide (fun w => diskSize_calls s w hs)
    have he' := hide he
    clear hie he
    by_cases hr : D.room - (bytesOf D.lines : Int) < (s.size : Int) + 1
    · have e0 : writeE D s = 6 := by unfold writeE; rw [if_neg he'.out, if_pos hr]
      have e1 : writeD D s = D := by unfold writeD; rw [e0, if_neg (by decide)]
      rw [e0, e1]
      clear e0 e1
      go_enter Try.func12, Try.ntmps12
      go_wp2_with (go_at_call 28; refine (u1.out _).mono ?_; rintro e w' ⟨rfl, rfl⟩)
      go_quiet (first | (go_at_call 29; refine Calls.quiet_of_same (u2.out _)))
      go_wp2
      go_ret
      exact ⟨rfl, g, Hd.out.new (drewsB _ _), touch_new (drewsB _ _), fun k h => .inl h⟩
    · have e0 : writeE D s = 0 := by unfold writeE; rw [if_neg he'.out, if_neg hr]
      have e1 : writeD D s = ⟨D.room, D.lines ++ [s], D.lasts⟩ := by unfold writeD; rw [e0, if_pos rfl]
      rw [e0, e1]
      clear e0 e1
      go_enter Try.func12, Try.ntmps12
      go_wp2_with (go_at_call 28; refine (u1.out _).mono ?_; rintro e w' ⟨rfl, rfl⟩)
      go_quiet (first | (go_at_call 29; refine Calls.quiet_of_same (u2.out _)))
      go_wp2
      obtain ⟨W0, hW0⟩ : ∃ W0, w'.drewN nq = W0 := ⟨_, rfl⟩
      have hB0 : Below w'.heap.size w' W0 := by rw [← hW0]; exact drewsB _ _
      have d3 : W0.cell? ⟨p, 3, none⟩ = some (.slice a D.lines.length cap) := (hB0.cell (p := ⟨p, 3, none⟩) Hd.out.lt).trans c3
      have k3 : W0.frozen? ⟨p, 3, none⟩ = false := (hB0.frozen (p := ⟨p, 3, none⟩) Hd.out.lt).trans f3
      have Hd0 := hide (Hd.out.new hB0)
      have Hr0 := hide (ownsRow_of_heap Hr.out fun k e => hB0.block k (Hr.out.lt k e).2)
      have Hp0 := hide ((hB0.block p Hd.out.lt).trans Hp.out)
      have hp0 := (Hd.out.new hB0).lt
      rw [hW0]
      clear hW0 c0 c1 c2 c3 f3 f1 u1
      have HBs := hB0.size
      have Hb := HB.out
      have hne0 : some p ≠ (Value.slice a D.lines.length cap).ownBlock := row_not Hr0.out Hp0.out (by decide)
      go_region_law (first
          | ((refine stepCall rfl 30 #[.string s] ?_ (strClone_calls s _ hs) ?_; (· go_simp); rintro e w1 ⟨rfl, hB1⟩; have hs1 : W0.heap.size ≤ w1.heap.size := hB1.size; have d3' : w1.cell? ⟨p, 3, none⟩ = some (.slice a D.lines.length cap) := (hB1.cell (p := ⟨p, 3, none⟩) hp0).trans d3; have d3'' := fun o => Lib.cell?_alloc_some o d3'; refine ⟨_, rfl, ?_⟩))
          | ((refine step_append_lies _ (by rfl) _ _ _ (by rfl) B 9 i0 _ 1 16 Try.underlying40 hi0 hz0 hz1 hz2 rfl (by omega) (.slice a D.lines.length cap) D.lines.length (D.lines.map Value.string) (by rfl) (World.ownsRow.alloc (ownsRow_of_heap Hr0.out fun k e => hB1.block k (Hr0.out.lt k e).2) _)
                ⟨w1.heap.size, 0, none⟩ 1 1 [.string s] (by rfl) (by rfl) (World.news_of_block (cs := #[.string s]) (t := 9) (fr := (0, 0)) (heap_alloc_new w1 _)) (by simp [Value.oneCell'])
                (by omega) (by unfold maxLen; omega) (by omega) (by simp; omega) (w1.heap.size + 1) (by simp) ?_; intro g1 cap1 w2 hown hgrow hat hlt;
              obtain ⟨hp2, hd2, ht2, hg2⟩ := write_mem (s := s) Hd0.out (show Below W0.heap.size W0 w1 from ⟨hB1.os, hB1.tape, hB1.output, hB1.size, hB1.block⟩) Hv.out Hp0.out Hr0.out hown hgrow hat (by omega); have e3 := cellsAt hp2 3; have l3 := frozenAt hp2 3; have e1 := cellsAt hp2 1; have l1 := frozenAt hp2 1; simp only [List.getElem?_toArray, List.getElem?_cons_zero, List.getElem?_cons_succ] at e3 e1)))
      all_goals
        obtain ⟨W2, hW2⟩ : ∃ W2, w2.setCell ⟨p, 3, none⟩ (.slice (some ⟨g1, 0, none⟩) (D.lines.length + 1) cap1) = W2 := ⟨_, rfl⟩
        have m1 : W2.cell? ⟨p, 1, none⟩ = some (.int .i64 (bytesOf D.lines)) := by rw [← hW2]; simpa using cellsAt (setAt (j := 3) hp2 _) 1
        have n1 : W2.frozen? ⟨p, 1, none⟩ = false := by rw [← hW2]; exact frozenAt (setAt (j := 3) hp2 _) 1
        rw [hW2] at hd2 ht2
        rw [hW2]
        have T := hide (ht2.of_touch hB0)
        have I := hide hd2
        have G : Hid (g = some g1 ∨ w'.heap.size ≤ g1) := hg2.imp id fun h => Nat.le_trans HBs h
        clear hW2 e3 e1 l3 l1 hp2 hd2 ht2 hg2 hown hgrow hat hlt d3 d3' d3'' k3 hB1 hs1 hB0 Hd0 Hr0 Hp0 hne0 Hd Hr Hp HB
        go_wp2
        refine stillTail 7 (by kernel_rfl) (by kernel_rfl) ?_
        simp only [List.take_succ_cons, List.take_zero, List.drop_succ_cons, List.drop_zero]
        still_step
        still_step
        still_step
        still_step
        still_step
        still_call (u2.out _)
        still_step
        refine wpStill_nil ?_
        go_wp2
        go_ret
        exact ⟨rfl, some g1, I.out.keep fun _ _ => rfl, ⟨T.out.os, T.out.tape, T.out.output, T.out.size, T.out.block⟩, fun k e => by cases e; exact G.out⟩

end Go.Proofs.Ytheaifgoleklpaa
