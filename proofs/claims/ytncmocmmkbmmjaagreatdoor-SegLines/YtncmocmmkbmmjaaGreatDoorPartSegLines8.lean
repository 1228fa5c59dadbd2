/- Own work: the parts D2, D3, D3b, S1, S2, S3 of the proof, laid together. -/
import Derived.Test.YtncmocmmkbmmjaaGreatDoorPartSegLines7
import Derived.Deep.RegionHeld3
import Derived.Deep.RegionLaw
import Derived.Deep.AppendLies
import Derived.StillTailTactics
import Derived.Test.YtncmocmmkbmmjaaGreatDoorPartSegLines5
import Derived.Deep.LoopGhost
import Derived.Lib.RowBridge
import Derived.Shelf.Spec.SlicesInsert
import Derived.Lib.AppendZerosOnto
import Derived.Laws.NewBlocks
import Derived.Maps.AppendAt
/- disk's Write, Twin, Lines. Own work; no statement. -/
set_option linter.unusedSimpArgs false
set_option linter.unusedVariables false
namespace Go.Proofs.YtncmocmmkbmmjaaGreatDoor
open Go.RowKit Go.Shelf


set_option maxHeartbeats 400000 in
theorem strClone_calls (s : ByteArray) (w : World) (hs : s.size ≤ 1099511627776) :
    Calls Tryz.prog 35 #[.string s] w fun e w' => e = .returned (.string s) ∧ Below w.heap.size w w' := by
  have Ci := hide (Tryz.stringslite_Clone s w (by omega))
  go_enter Tryz.func35, Tryz.ntmps35
  go_wp2_with (go_at_call 63; refine Ci.out.mono ?_; rintro e w' ⟨rfl, hB⟩)
  go_ret
  exact ⟨rfl, hB⟩

theorem cloneStrs_calls (B : Nat) (v : Value) (l : List ByteArray) (w : World) (hr : w.ownsRow B 9 1 v l.length (l.map Value.string)) (hl : l.length ≤ 1099511627776) :
    Calls Tryz.prog 48 #[v] w fun e w' => ∃ v', e = .returned v' ∧ w'.ownsRow w.heap.size 9 1 v' l.length (l.map Value.string) ∧ Below w.heap.size w w' := by
  rcases hr.2 with ⟨rfl, h0⟩ | ⟨g, cap, cur, rfl, hb, hg, hnc, hcm, hcs, ht⟩
  · have e : l = [] := List.eq_nil_of_length_eq_zero h0
    subst e
    refine (Tryz.slices_Clone_string_nil 0 0 w).mono ?_
    rintro e w' ⟨rfl, rfl⟩
    exact ⟨_, rfl, World.ownsRow_nil _ _ _ _, Below.refl _ _⟩
  · refine (Tryz.slices_Clone_string g 0 l.length cap l w (Nat.le_refl _) (by omega) ?_).mono ?_
    · intro j hj
      rw [Nat.zero_add, hr.cellAt j (by omega)]
      simp [hj]
    · rintro e w' ⟨v', rfl, hown, -, hB⟩
      rw [List.take_of_length_le (Nat.le_refl _)] at hown
      exact ⟨v', rfl, hown, hB⟩

/-- Has a text a line's end in it? -/
def hasEnd (s : ByteArray) : Bool := decide (10 ∈ s.data.toList)

theorem indexByte_ends (s : ByteArray) : (0 ≤ Lib.indexByte s.data.toList 10) ↔ hasEnd s = true := by
  unfold hasEnd
  rw [decide_eq_true_eq]
  generalize s.data.toList = l
  induction l with
  | nil => simp [Lib.indexByte]
  | cons x r ih =>
    simp only [Lib.indexByte, List.mem_cons]
    by_cases h : x = 10
    · simp [h]
    · have h2 : ¬ (10 : UInt8) = x := fun e => h e.symm
      have h3 : (x == 10) = false := by simp [h]
      simp only [h3, h2, false_or, Bool.false_eq_true, if_false, beq_iff_eq]
      rw [← ih]
      have := Lib.indexByte_ge r 10
      split <;> omega

/-- What Write answers; what it makes of a disk. -/
def writeE (D : DiskD) (s : ByteArray) : Int := if hasEnd s = true then 2 else if D.room - (bytesOf D.lines : Int) < (s.size : Int) + 1 then 6 else 0
def writeD (D : DiskD) (s : ByteArray) : DiskD := if writeE D s = 0 then ⟨D.room, D.lines ++ [s], D.lasts⟩ else D


/-- The line is put behind the others: memory. -/
theorem write_mem {w w1 w2 : World} {B p : Nat} {g : Option Nat} {D : DiskD} {s : ByteArray} {a : Option Addr} {cap g1 cap1 : Nat} {o : Obj} (hd : IsDisk w B p g D) (hB1 : Below w.heap.size w w1)
    (hv : (Value.slice a D.lines.length cap).ownBlock = g) (hp : w.heap[p]? = some (.cells #[.int .i64 D.room, .int .i64 (bytesOf D.lines), .int .i64 D.lasts, .slice a D.lines.length cap] 76 (0, 0)))
    (hr : w.ownsRow B 9 1 (.slice a D.lines.length cap) D.lines.length (D.lines.map Value.string))
    (hown : w2.ownsRow B 9 1 (.slice (some ⟨g1, 0, none⟩) (D.lines.length + 1) cap1) (D.lines.length + 1) (D.lines.map Value.string ++ [.string s])) (hgrow : (w1.alloc o).grownBy w2 (Value.slice a D.lines.length cap).ownBlock)
    (hat : (Value.slice a D.lines.length cap).ownBlock = some g1 ∨ g1 = w1.heap.size + 1) (hroom : (bytesOf D.lines : Int) + ((s.size : Int) + 1) ≤ D.room) :
    w2.heap[p]? = some (.cells #[.int .i64 D.room, .int .i64 (bytesOf D.lines), .int .i64 D.lasts, .slice a D.lines.length cap] 76 (0, 0)) ∧
    IsDisk ((w2.setCell ⟨p, 3, none⟩ (.slice (some ⟨g1, 0, none⟩) (D.lines.length + 1) cap1)).setCell ⟨p, 1, none⟩ (.int .i64 ((bytesOf D.lines : Int) + ((s.size : Int) + 1)))) B p (some g1) ⟨D.room, D.lines ++ [s], D.lasts⟩ ∧
    Touch (onDisk p g) w ((w2.setCell ⟨p, 3, none⟩ (.slice (some ⟨g1, 0, none⟩) (D.lines.length + 1) cap1)).setCell ⟨p, 1, none⟩ (.int .i64 ((bytesOf D.lines : Int) + ((s.size : Int) + 1)))) ∧ (g = some g1 ∨ w.heap.size ≤ g1) := by
  have hlt := ltAt hp
  have hs1 := hB1.size
  have hne : some p ≠ (Value.slice a D.lines.length cap).ownBlock := fun e => by
    rcases hr.2 with ⟨h0, _⟩ | ⟨g', cap', cur, h0, _, hg', _⟩
    · rw [h0] at e; cases e
    · rw [h0] at e
      obtain rfl : p = g' := by simpa [Value.ownBlock] using e
      rw [hp] at hg'
      simp at hg'
  have hp2 : w2.heap[p]? = some (.cells #[.int .i64 D.room, .int .i64 (bytesOf D.lines), .int .i64 D.lasts, .slice a D.lines.length cap] 76 (0, 0)) :=
    (hgrow.block p (by simp; omega) hne).trans ((Below.heap_alloc _ _ _ (by omega)).trans ((hB1.block p hlt).trans hp))
  have hg1 : g = some g1 ∨ w.heap.size ≤ g1 := by
    rcases hat with e | e
    · exact .inl (hv.symm.trans e)
    · exact .inr (by omega)
  have hpg : g1 ≠ p := fun e => by
    rcases hg1 with h | h
    · rw [← hv, e] at h; exact hne h.symm
    · omega
  have hb : ((bytesOf (D.lines ++ [s]) : Nat) : Int) = (bytesOf D.lines : Int) + ((s.size : Int) + 1) := by rw [bytesOf_append]; simp [bytesOf]
  refine ⟨hp2, ⟨⟨hd.ok.low, hd.ok.high, by rw [hb]; exact hroom, by have := hd.ok.lasts; simp; omega⟩, hd.low, .slice (some ⟨g1, 0, none⟩) (D.lines.length + 1) cap1, rfl, ?_, ?_⟩, ?_, hg1⟩
  · have := setAt (j := 1) (setAt (j := 3) hp2 (.slice (some ⟨g1, 0, none⟩) (D.lines.length + 1) cap1)) (.int .i64 ((bytesOf D.lines : Int) + ((s.size : Int) + 1)))
    dsimp only
    rw [hb]
    simpa using this
  · have e1 : (D.lines ++ [s]).length = D.lines.length + 1 := by simp
    have e2 : (D.lines ++ [s]).map Value.string = D.lines.map Value.string ++ [.string s] := by simp
    dsimp only
    rw [e1, e2]
    exact ownsRow_of_heap hown fun k hk => by
      obtain rfl : g1 = k := by simpa [Value.ownBlock] using hk
      exact (Below.heap_setCell _ _ _ _ hpg).trans (Below.heap_setCell _ _ _ _ hpg)
  · refine Touch.set (Touch.set ?_ _ _ (.inl rfl)) _ _ (.inl rfl)
    exact ((touch_new hB1).alloc o).next (S1 := fun k => (Value.slice a D.lines.length cap).ownBlock = some k) ⟨hgrow.os, hgrow.tape, hgrow.output, hgrow.size, fun k hk hn => hgrow.block k hk fun e => hn e.symm⟩ fun i _ e => .inr (hv ▸ e)

set_option maxRecDepth 100000 in
set_option maxHeartbeats 4000000 in
theorem diskWrite_calls (B p : Nat) (g : Option Nat) (D : DiskD) (s : ByteArray) (w : World) (hd : IsDisk w B p g D) (hB : B ≤ w.heap.size) (hs : s.size ≤ 1099511627776) :
    Calls Tryz.prog 10 #[.pointer (some ⟨p, 0, none⟩), .string s] w fun e w' => e = .returned (.int .i64 (writeE D s)) ∧ ∃ g', IsDisk w' B p g' (writeD D s) ∧ Touch (onDisk p g) w w' ∧ (∀ k, g' = some k → g = some k ∨ w.heap.size ≤ k) := by
  obtain ⟨i0, hi0, hz0, hz1, hz2⟩ := info_parts Tryz.info9
  obtain ⟨a, cap, c0, c1, c2, c3, hf, hv, hr, hp⟩ := hd.open
  have hl := hd.len
  have hk0 := hd.ok.low
  have hk1 := hd.ok.high
  have u1 := hide (fun w => Tryz.strings_IndexByte s 10 w)
  rw [show ((10 : Int).toNat.toUInt8 : UInt8) = 10 from rfl] at u1
  have hie := indexByte_ends s
  have hge := Lib.indexByte_ge s.data.toList 10
  generalize Lib.indexByte s.data.toList 10 = i at *
  have f3 := hf 3
  have f1 := hf 1
  have Hd := hide hd
  have Hr := hide hr
  have Hp := hide hp
  have Hv := hide hv
  have HB := hide hB
  clear hd hf hr hp hv hB
  by_cases he : hasEnd s = true
  · have hi : 0 ≤ i := hie.2 he
    have e0 : writeE D s = 2 := by unfold writeE; rw [if_pos he]
    have e1 : writeD D s = D := by unfold writeD; rw [e0, if_neg (by decide)]
    rw [e0, e1]
    clear e0 e1 he hie
    go_enter Tryz.func10, Tryz.ntmps10
    go_wp2_with (go_at_call 33; refine (u1.out _).mono ?_; rintro e w' ⟨rfl, rfl⟩)
    go_ret
    exact ⟨rfl, g, Hd.out, Touch.refl _ _, fun k h => .inl h⟩
  · have hi : ¬ 0 ≤ i := fun h => he (hie.1 h)
    have u2 := hide (fun w => diskSize_calls s w hs)
    have he' := hide he
    clear hie he
    by_cases hr : D.room - (bytesOf D.lines : Int) < (s.size : Int) + 1
    · have e0 : writeE D s = 6 := by unfold writeE; rw [if_neg he'.out, if_pos hr]
      have e1 : writeD D s = D := by unfold writeD; rw [e0, if_neg (by decide)]
      rw [e0, e1]
      clear e0 e1
      go_enter Tryz.func10, Tryz.ntmps10
      go_wp2_with (go_at_call 33; refine (u1.out _).mono ?_; rintro e w' ⟨rfl, rfl⟩)
      go_quiet (first | (go_at_call 34; refine Calls.quiet_of_same (u2.out _)))
      go_wp2
      go_ret
      exact ⟨rfl, g, Hd.out.new (drewsB _ _), touch_new (drewsB _ _), fun k h => .inl h⟩
    · have e0 : writeE D s = 0 := by unfold writeE; rw [if_neg he'.out, if_neg hr]
      have e1 : writeD D s = ⟨D.room, D.lines ++ [s], D.lasts⟩ := by unfold writeD; rw [e0, if_pos rfl]
      rw [e0, e1]
      clear e0 e1
      go_enter Tryz.func10, Tryz.ntmps10
      go_wp2_with (go_at_call 33; refine (u1.out _).mono ?_; rintro e w' ⟨rfl, rfl⟩)
      go_quiet (first | (go_at_call 34; refine Calls.quiet_of_same (u2.out _)))
      go_wp2
      obtain ⟨W0, hW0⟩ : ∃ W0, w'.drewN nq = W0 := ⟨_, rfl⟩
      have hB0 : Below w'.heap.size w' W0 := by rw [← hW0]; exact drewsB _ _
      have d3 : W0.cell? ⟨p, 3, none⟩ = some (.slice a D.lines.length cap) := (hB0.cell (p := ⟨p, 3, none⟩) Hd.out.lt).trans c3
      have k3 : W0.frozen? ⟨p, 3, none⟩ = false := (hB0.frozen (p := ⟨p, 3, none⟩) Hd.out.lt).trans f3
      have Hd0 := hide (Hd.out.new hB0)
      have Hr0 := hide (ownsRow_of_heap Hr.out fun k e => hB0.block k (Hr.out.lt k e).2)
      have Hp0 := hide ((hB0.block p Hd.out.lt).trans Hp.out)
      have hp0 := (Hd.out.new hB0).lt
      rw [hW0]
      clear hW0 c0 c1 c2 c3 f3 f1 u1
      have HBs := hB0.size
      have Hb := HB.out
      have hne0 : some p ≠ (Value.slice a D.lines.length cap).ownBlock := row_not Hr0.out Hp0.out (by decide)
      go_region_law (first
          | ((refine stepCall rfl 35 #[.string s] ?_ (strClone_calls s _ hs) ?_; (· go_simp); rintro e w1 ⟨rfl, hB1⟩; have hs1 : W0.heap.size ≤ w1.heap.size := hB1.size; have d3' : w1.cell? ⟨p, 3, none⟩ = some (.slice a D.lines.length cap) := (hB1.cell (p := ⟨p, 3, none⟩) hp0).trans d3; have d3'' := fun o => Lib.cell?_alloc_some o d3'; refine ⟨_, rfl, ?_⟩))
          | ((refine step_append_lies _ (by rfl) _ _ _ (by rfl) B 9 i0 _ 1 16 Tryz.underlying22 hi0 hz0 hz1 hz2 rfl (by omega) (.slice a D.lines.length cap) D.lines.length (D.lines.map Value.string) (by rfl) (World.ownsRow.alloc (ownsRow_of_heap Hr0.out fun k e => hB1.block k (Hr0.out.lt k e).2) _)
                ⟨w1.heap.size, 0, none⟩ 1 1 [.string s] (by rfl) (by rfl) (World.news_of_block (cs := #[.string s]) (t := 9) (fr := (0, 0)) (heap_alloc_new w1 _)) (by simp [Value.oneCell'])
                (by omega) (by unfold maxLen; omega) (by omega) (by simp; omega) (w1.heap.size + 1) (by simp) ?_; intro g1 cap1 w2 hown hgrow hat hlt;
              obtain ⟨hp2, hd2, ht2, hg2⟩ := write_mem (s := s) Hd0.out (show Below W0.heap.size W0 w1 from ⟨hB1.os, hB1.tape, hB1.output, hB1.size, hB1.block⟩) Hv.out Hp0.out Hr0.out hown hgrow hat (by omega); have e3 := cellsAt hp2 3; have l3 := frozenAt hp2 3; have e1 := cellsAt hp2 1; have l1 := frozenAt hp2 1; simp only [List.getElem?_toArray, List.getElem?_cons_zero, List.getElem?_cons_succ] at e3 e1)))
      all_goals
        obtain ⟨W2, hW2⟩ : ∃ W2, w2.setCell ⟨p, 3, none⟩ (.slice (some ⟨g1, 0, none⟩) (D.lines.length + 1) cap1) = W2 := ⟨_, rfl⟩
        have m1 : W2.cell? ⟨p, 1, none⟩ = some (.int .i64 (bytesOf D.lines)) := by rw [← hW2]; simpa using cellsAt (setAt (j := 3) hp2 _) 1
        have n1 : W2.frozen? ⟨p, 1, none⟩ = false := by rw [← hW2]; exact frozenAt (setAt (j := 3) hp2 _) 1
        rw [hW2] at hd2 ht2
        rw [hW2]
        have T := hide (ht2.of_touch hB0)
        have I := hide hd2
        have G : Hid (g = some g1 ∨ w'.heap.size ≤ g1) := hg2.imp id fun h => Nat.le_trans HBs h
        clear hW2 e3 e1 l3 l1 hp2 hd2 ht2 hg2 hown hgrow hat hlt d3 d3' d3'' k3 hB1 hs1 hB0 Hd0 Hr0 Hp0 hne0 Hd Hr Hp HB
        go_wp2
        refine stillTail 7 (by kernel_rfl) (by kernel_rfl) ?_
        simp only [List.take_succ_cons, List.take_zero, List.drop_succ_cons, List.drop_zero]
        still_step
        still_step
        still_step
        still_step
        still_step
        still_call (u2.out _)
        still_step
        refine wpStill_nil ?_
        go_wp2
        go_ret
        exact ⟨rfl, some g1, I.out.keep fun _ _ => rfl, ⟨T.out.os, T.out.tape, T.out.output, T.out.size, T.out.block⟩, fun k e => by cases e; exact G.out⟩

end Go.Proofs.YtncmocmmkbmmjaaGreatDoor

/- disk's Twin, Lines; the laws' Lines, SameLines. Own work; no statement. -/
set_option linter.unusedSimpArgs false
set_option linter.unusedVariables false
namespace Go.Proofs.YtncmocmmkbmmjaaGreatDoor
open Go.RowKit Go.Shelf

attribute [local go_sem] Oper.semAt_some

theorem IsDisk.lower {w : World} {B B' p : Nat} {g : Option Nat} {D : DiskD} (h : IsDisk w B p g D) (hB : B' ≤ B) : IsDisk w B' p g D := by
  obtain ⟨v, hv, hp, hr⟩ := h.val
  exact ⟨h.ok, Nat.le_trans hB h.low, v, hv, hp, ownsRow_low hr hB⟩

/-- A box with a row of its own, the lines l: what Lines goes over. -/
def IsSeq (w : World) (b : Nat) (l : List ByteArray) : Prop :=
  ∃ v g, w.heap[b]? = some (.cells #[v] 22 (0, 0)) ∧ v.ownBlock = g ∧ w.ownsRow 0 9 1 v l.length (l.map Value.string)

theorem IsSeq.below {w w' : World} {b : Nat} {l : List ByteArray} (h : IsSeq w b l) (hb : Below w.heap.size w w') : IsSeq w' b l := by
  obtain ⟨v, g, h1, h2, h3⟩ := h
  exact ⟨v, g, (hb.block b (ltAt h1)).trans h1, h2, ownsRow_of_heap h3 fun k e => hb.block k (h3.lt k e).2⟩

set_option maxHeartbeats 2000000 in
theorem diskLines_calls (B p : Nat) (g : Option Nat) (D : DiskD) (w : World) (hd : IsDisk w B p g D) :
    Calls Tryz.prog 16 #[.pointer (some ⟨p, 0, none⟩)] w fun e w' => ∃ b, e = .returned (.func (.func 49) #[] #[.pointer (some ⟨b, 0, none⟩)]) ∧ w.heap.size ≤ b ∧ IsSeq w' b D.lines ∧ Below w.heap.size w w' := by
  have hmf : ∀ (fn : Fn) (first cap : Array Value) (w : World), (Instr.makeFunc fn first cap).run Tryz.prog w = .ok (.func fn first cap) w := fun _ _ _ _ => rfl
  obtain ⟨a, cap, c0, c1, c2, c3, hf, hv, hr, hp⟩ := hd.open
  have hl := hd.len
  have C := hide (cloneStrs_calls B _ D.lines w hr (by omega))
  clear hd hr hp hv hf
  go_enter Tryz.func16, Tryz.ntmps16
  go_wp2_with (go_at_call 48; refine C.out.mono ?_; rintro e w1 ⟨v', rfl, hown, hB1⟩; obtain ⟨a', cap', rfl⟩ := ownsRow_slice hown)
  go_ret
  refine ⟨w1.heap.size, rfl, hB1.size, ⟨.slice a' D.lines.length cap', _, World.alloc_heap_new w1 _, rfl, ownsRow_low (World.ownsRow.alloc hown _) (Nat.zero_le _)⟩, hB1.alloc hB1.size _⟩

/-- What a round of a loop over Lines must keep: the box, and the row. -/
def KeepsSeq (b : Nat) (g : Option Nat) (W W' : World) : Prop := ∀ k, onDisk b g k → W'.heap[k]? = W.heap[k]?
theorem keepsSeq_t {b : Nat} {g : Option Nat} {A B C : World} (h : KeepsSeq b g A B) (k : KeepsSeq b g B C) : KeepsSeq b g A C := fun i hi => (k i hi).trans (h i hi)
theorem keepsSeq_b {b n : Nat} {g : Option Nat} (hg : ∀ k, onDisk b g k → k < n) (W : World) (l : Nat) (o o' : Obj) (hl : n ≤ l) (_ : W.heap[l]? = some o) (_ : o.isCells = false) (_ : o.isWalk = false) : KeepsSeq b g W (W.putObj l o') := fun k hk => by
  have := hg k hk
  unfold World.putObj
  simp only [Array.getElem?_setIfInBounds]
  rw [if_neg (by omega)]

/-- A line and its place, handed over. -/
def encLine (x : Nat × ByteArray) : Array Value := #[.int .i64 (x.1 : Int), .string x.2]
/-- The lines with their places. -/
def placed (l : List ByteArray) : List (Nat × ByteArray) := l.zipIdx.map fun x => (x.2, x.1)
theorem placed_length (l : List ByteArray) : (placed l).length = l.length := by simp [placed]
theorem placed_get (l : List ByteArray) (k : Nat) (h : k < (placed l).length) : (placed l)[k] = (k, l[k]'(by simpa [placed] using h)) := by simp [placed]

set_option maxRecDepth 100000 in
set_option maxHeartbeats 2000000 in
theorem lines_seq (n : Nat) (hn : 1 ≤ n) (b : Nat) (v : Value) (g : Option Nat) (l : List ByteArray) (hlen : l.length ≤ 1099511627776) (w : World) (hbox : w.heap[b]? = some (.cells #[v] 22 (0, 0))) (hv : v.ownBlock = g) (hrow : w.ownsRow 0 9 1 v l.length (l.map Value.string)) :
    SeqL n Tryz.prog 49 #[.pointer (some ⟨b, 0, none⟩)] encLine (KeepsSeq b g) (placed l) w := by
  intro lp J Jx W hW hY h0
  have hbox := (hW.block b (ltAt hbox)).trans hbox
  have hrow := ownsRow_of_heap hrow fun k e => hW.block k (hrow.lt k e).2
  obtain ⟨a, cap, rfl⟩ := ownsRow_slice hrow
  have hbx := cellsAt hbox 0
  simp only [List.getElem?_toArray, List.getElem?_cons_zero] at hbx
  refine callsIn_of_wp Tryz.func49 rfl trivial ?_ rfl
  simp only [Tryz.ntmps49, List.size_toArray, List.length_cons, List.length_nil, Nat.reduceAdd, Nat.reduceSub, Array.replicate_succ, Array.replicate_zero, List.push_toArray, List.append_toArray, List.nil_append, List.cons_append]
  have HY := hide hY
  have Hr := hide hrow
  have Hv := hide hv
  clear hY hrow hbox hv
  gi_wp2
  clear hbx
  gi_loopw [7] (fun i wr => ∃ k : Nat, k ≤ l.length ∧ i = .int .i64 (k : Int) ∧ J k wr ∧ KeepsSeq b g W wr) (fun i _ => l.length - (intOf i).toNat)
  case atStart => exact ⟨0, Nat.zero_le _, rfl, h0, fun _ _ => rfl⟩
  case round =>
    obtain ⟨k, hk, rfl, hJs, hnx⟩ := hrel
    by_cases hlt : k < l.length
    · obtain ⟨b', rfl, hc⟩ := strs_cell Hr.out k hlt
      have hcx : wr.cell? ⟨b', k, none⟩ = some (.string l[k]) := (World.cell?_of_block (a := ⟨b', k, none⟩) (hnx b' (.inr (Hv.out.symm.trans rfl)))).trans hc
      have hltI : (k : Int) < (l.length : Int) := by omega
      have hy := HY.out k (by rw [placed_length]; exact hlt) wr hJs
      rw [placed_get] at hy
      obtain ⟨s, hs⟩ : ∃ s, l[k] = s := ⟨_, rfl⟩
      rw [hs] at hcx hc hy
      obtain ⟨fn, tmps, assign, body, hy, hR⟩ := hy
      dsimp only [encLine] at hy
      clear hs hc
      have Hn := hide hnx
      clear hnx
      gi_wp2
      refine hR.mono ?_
      rintro e W3 (⟨rfl, hJ3, hk3⟩ | ⟨rfl, hJx3⟩)
      · gi_wp2
        exact ⟨⟨k + 1, by omega, by go_num, hJ3, keepsSeq_t Hn.out hk3⟩, by simp [intOf]; omega⟩
      · gi_wp2
        refine bodyPost_ret (results_none rfl _ _ _) rfl ?_
        exact ⟨⟨_, rfl⟩, .inr ⟨k, by rw [placed_length]; exact hlt, hJx3⟩⟩
    · obtain rfl : k = l.length := by omega
      gi_wp2
      go_end0
      exact ⟨⟨_, rfl⟩, .inl (by rw [placed_length]; exact hJs)⟩

end Go.Proofs.YtncmocmmkbmmjaaGreatDoor

/- slices.Delete of a row's tail. Own work; no statement. -/
set_option linter.unusedSimpArgs false
set_option linter.unusedVariables false
namespace Go.Proofs.YtncmocmmkbmmjaaGreatDoor
open Go.RowKit Go.Shelf Go.Sort

/-- Cells with others laid over them from a place on. -/
def setL (c : Array Value) : Nat → List Value → Array Value
  | _, [] => c
  | o, v :: r => setL (c.setIfInBounds o v) (o + 1) r

theorem setL_size : ∀ (vs : List Value) (o : Nat) (c : Array Value), (setL c o vs).size = c.size
  | [], _, _ => rfl
  | v :: r, o, c => by rw [setL, setL_size r]; simp
theorem setL_get : ∀ (vs : List Value) (o : Nat) (c : Array Value) (k : Nat), k < c.size → (setL c o vs)[k]? = if o ≤ k ∧ k < o + vs.length then vs[k - o]? else c[k]?
  | [], o, c, k, _ => by simp [setL]; intro; omega
  | v :: r, o, c, k, hk => by
    rw [setL, setL_get r (o + 1) _ k (by simpa using hk)]
    by_cases h : o = k
    · subst h
      rw [if_neg (by omega), if_pos (by simp)]
      simp [hk]
    · by_cases h2 : o ≤ k ∧ k < o + (v :: r).length
      · rw [if_pos h2, if_pos (by simp at h2; omega)]
        obtain ⟨j, rfl⟩ : ∃ j, k = o + 1 + j := ⟨k - (o + 1), by omega⟩
        rw [show o + 1 + j - (o + 1) = j by omega, show o + 1 + j - o = j + 1 by omega]
        simp
      · rw [if_neg h2, if_neg (by simp at h2 ⊢; omega)]
        simp [Array.getElem?_setIfInBounds, h]

theorem heap_setCells {b : Nat} {t : TypeId} {f : Nat × Nat} : ∀ (vs : List Value) (o : Nat) (w : World) (c : Array Value), w.heap[b]? = some (.cells c t f) → (w.setCells b o vs).heap[b]? = some (.cells (setL c o vs) t f)
  | [], _, _, _, h => h
  | v :: r, o, w, c, h => heap_setCells r (o + 1) _ _ (setAt (j := o) h v)
theorem touch_setCells {S : Nat → Prop} {b : Nat} (h : S b) : ∀ (vs : List Value) (o : Nat) (w : World), Touch S w (w.setCells b o vs)
  | [], _, w => Touch.refl _ w
  | v :: r, o, w => (touch_set w ⟨b, o, none⟩ v h).trans (touch_setCells h r (o + 1) _)

theorem deleteTail_calls (B n cap : Nat) (a : Option Addr) (l : List ByteArray) (w : World) (hr : w.ownsRow B 9 1 (.slice a l.length cap) l.length (l.map Value.string)) (hn : n ≤ l.length) :
    Calls Tryz.prog 82 #[.slice a l.length cap, .int .i64 (n : Int), .int .i64 (l.length : Int)] w fun e w' => e = .returned (.slice a n cap) ∧ w'.ownsRow B 9 1 (.slice a n cap) n ((l.take n).map Value.string) ∧ Touch (fun k => (Value.slice a l.length cap).ownBlock = some k) w w' := by
  rcases hr.2 with ⟨e, h0⟩ | ⟨g, cap', cur, e, hb, hg, hnc, hcm, hcs, ht⟩
  · have el : l = [] := List.eq_nil_of_length_eq_zero h0
    subst el
    have en : n = 0 := by simpa using hn
    subst en
    refine (Tryz.slices_Delete_string_empty a cap w).mono ?_
    rintro e w' ⟨rfl, rfl⟩
    exact ⟨rfl, hr, Touch.refl _ _⟩
  · simp only [Value.slice.injEq, true_and] at e
    obtain ⟨rfl, rfl⟩ := e
    refine (Tryz.slices_Delete_string_cells g 0 l.length cap n l.length (fun i => l.getD i ByteArray.empty) w hnc (by unfold maxLen at hcm; exact hcm) hn (Nat.le_refl _) ?_ ?_).mono ?_
    · intro i hi
      rw [Nat.zero_add, hr.cellAt i (by omega)]
      simp [hi]
    · intro j _
      exact frozenAt hg _
    · rintro e w' ⟨rfl, q, rfl⟩
      refine ⟨by rw [show l.length - (l.length - n) = n by omega], ⟨by simp; omega, .inr ⟨g, cap, _, rfl, hb, heap_setCells _ 0 (w.drewN q) cur hg, by omega, hcm, by rw [setL_size]; exact hcs, ?_⟩⟩, (touch_new (drewsB w q)).trans (touch_setCells (S := fun k => (Value.slice (some ⟨g, 0, none⟩) l.length cap).ownBlock = some k) rfl _ _ _)⟩
      apply List.ext_getElem?
      intro k
      by_cases hk : k < n
      · have hkc : k < cur.size := by omega
        rw [List.getElem?_take_of_lt (by omega), Array.getElem?_toList, setL_get _ _ _ _ hkc, if_pos (by simp [Lib.strsOf]; omega)]
        have hkl : k < l.length := by omega
        rw [Nat.sub_zero, List.map_append, List.map_append, List.append_assoc, List.getElem?_append_left (by simp [Lib.strsOf]; omega)]
        simp [Lib.strsOf, hk, hkl, encStr]
      · rw [List.getElem?_eq_none (by simp; omega), List.getElem?_eq_none (by simp; omega)]

end Go.Proofs.YtncmocmmkbmmjaaGreatDoor

/- Rows of pointers: slices.Clone, Delete, BinarySearchFunc at them. Own work; no statement. -/
set_option linter.unusedSimpArgs false
set_option linter.unusedVariables false
namespace Go.Proofs.YtncmocmmkbmmjaaGreatDoor
open Go.RowKit Go.Shelf Go.Sort

/-- A pointer to a block's first cell. -/
def ptrV (q : Nat) : Value := .pointer (some ⟨q, 0, none⟩)

theorem Tryz.info106 : (Tryz.prog.info? 106).map (fun i => (i.zero, i.size, i.bytes)) = some (some (.pointer none), 1, 8) := by kernel_rfl

theorem ptr_one {l : List Nat} : ∀ u ∈ l.map ptrV, u.oneCell' = true := by
  intro u hu
  obtain ⟨x, _, rfl⟩ := List.mem_map.1 hu
  rfl

theorem cloneSlots_calls (B : Nat) (v : Value) (qs : List Nat) (w : World) (hr : w.ownsRow B 106 1 v qs.length (qs.map ptrV)) (hl : qs.length ≤ 1099511627776) :
    Calls Tryz.prog 55 #[v] w fun e w' => ∃ v', e = .returned v' ∧ w'.ownsRow w.heap.size 106 1 v' qs.length (qs.map ptrV) ∧ Below w.heap.size w w' := by
  obtain ⟨i0, hi0, hz0, hz1, hz2⟩ := info_parts Tryz.info106
  rcases hr.2 with ⟨rfl, h0⟩ | ⟨g, cap, cur, rfl, hb, hg, hnc, hcm, hcs, ht⟩
  · have e : qs = [] := List.eq_nil_of_length_eq_zero h0
    subst e
    refine (AnyE.slices_Clone_nil Tryz.laysCloneSlot 0 0 w).mono ?_
    rintro e w' ⟨rfl, rfl⟩
    exact ⟨_, rfl, World.ownsRow_nil _ _ _ _, Below.refl _ _⟩
  · refine (AnyE.slices_Clone Tryz.laysCloneSlot i0 (.pointer none) 1 8 hi0 hz0 hz1 hz2 rfl (by decide) (fun w => Tryz.sizeOf106 w) g 0 qs.length cap (qs.map ptrV) w (by simp) (by unfold maxLen; omega) (by omega) ?_ ptr_one).mono ?_
    · intro j u hu
      have hj : j < qs.length := by have := (List.getElem?_eq_some_iff.1 hu).1; simpa using this
      rw [Nat.zero_add, hr.cellAt j (by omega)]
      exact hu
    · rintro e w' ⟨v', rfl, hown, -, hB⟩
      exact ⟨v', rfl, hown, hB⟩

theorem delSlots_calls (B i j cap : Nat) (a : Option Addr) (qs : List Nat) (w : World) (hr : w.ownsRow B 106 1 (.slice a qs.length cap) qs.length (qs.map ptrV)) (hij : i ≤ j) (hj : j ≤ qs.length) :
    Calls Tryz.prog 68 #[.slice a qs.length cap, .int .i64 (i : Int), .int .i64 (j : Int)] w fun e w' => e = .returned (.slice a (qs.take i ++ qs.drop j).length cap) ∧ w'.ownsRow B 106 1 (.slice a (qs.take i ++ qs.drop j).length cap) (qs.take i ++ qs.drop j).length ((qs.take i ++ qs.drop j).map ptrV) ∧ Touch (fun k => (Value.slice a qs.length cap).ownBlock = some k) w w' := by
  obtain ⟨i0, hi0, hz0, hz1, hz2⟩ := info_parts Tryz.info106
  have hlen : (qs.take i ++ qs.drop j).length = qs.length - (j - i) := by simp; omega
  rcases hr.2 with ⟨e, h0⟩ | ⟨g, cap', cur, e, hb, hg, hnc, hcm, hcs, ht⟩
  · have el : qs = [] := List.eq_nil_of_length_eq_zero h0
    subst el
    have en : j = 0 := by simpa using hj
    subst en
    have ei : i = 0 := by omega
    subst ei
    simp only [Value.slice.injEq] at e
    obtain ⟨rfl, -, rfl⟩ := e
    go_enter Tryz.func68, Tryz.ntmps68
    go_wp2
    go_ret
    exact ⟨rfl, World.ownsRow_nil _ _ _ _, Touch.refl _ _⟩
  · simp only [Value.slice.injEq, true_and] at e
    obtain ⟨rfl, rfl⟩ := e
    obtain ⟨d, hd⟩ : ∃ d : Array (Option Addr), d = (qs.map fun q => some (⟨q, 0, none⟩ : Addr)).toArray := ⟨_, rfl⟩
    have hds : d.size = qs.length := by rw [hd]; simp
    have hH : Holds Value.pointer w g 0 d := by
      intro k hk
      rw [hds] at hk
      refine ⟨?_, frozenAt hg _⟩
      rw [Nat.zero_add, hr.cellAt k (by omega), getElem!_pos d k (by omega)]
      simp [hk, hd, ptrV]
    have hc := AnyE.slices_Delete Tryz.laysDelSlot Value.pointer (fun _ => rfl) none (fun w => Tryz.zeroValue106 w) i0 hi0 hz1 g 0 cap i j d w hH (by omega) (by unfold maxLen at hcm; exact hcm) hij (by omega)
    rw [hds] at hc
    refine hc.mono ?_
    rintro e w' ⟨rfl, q, rfl⟩
    have hto : (d.toList.take i ++ d.toList.drop j).map Value.pointer = (qs.take i ++ qs.drop j).map ptrV := by
      rw [hd]
      simp [List.map_take, List.map_drop]
      rfl
    obtain ⟨W', hW'⟩ : ∃ W', putRow Value.pointer (Sort.ahead w q) g 0 (d.toList.take i ++ d.toList.drop j ++ List.replicate (j - i) none).toArray = W' := ⟨_, rfl⟩
    have hWe : W' = (w.drewN q).setCells g 0 ((d.toList.take i ++ d.toList.drop j ++ List.replicate (j - i) none).map Value.pointer) := by
      rw [← hW']
      exact Lib.putRow_eq_setCells _ w g 0 _ _ q hH (by simp; omega)
    rw [hW', hWe]
    refine ⟨by rw [hlen], ⟨by simp, .inr ⟨g, cap, _, rfl, hb, heap_setCells _ 0 (w.drewN q) cur hg, by omega, hcm, by rw [setL_size]; exact hcs, ?_⟩⟩, (touch_new (drewsB w q)).trans (touch_setCells (S := fun k => (Value.slice (some ⟨g, 0, none⟩) qs.length cap).ownBlock = some k) rfl _ _ _)⟩
    rw [List.map_append, hto]
    apply List.ext_getElem?
    intro k
    by_cases hk : k < (qs.take i ++ qs.drop j).length
    · have hkc : k < cur.size := by omega
      rw [List.getElem?_take_of_lt (by omega), Array.getElem?_toList, setL_get _ _ _ _ hkc, if_pos (by simp at hk ⊢; omega), Nat.sub_zero, List.getElem?_append_left (by simpa using hk)]
    · rw [List.getElem?_eq_none (by simp at hk ⊢; omega), List.getElem?_eq_none (by simpa using hk)]

set_option maxHeartbeats 400000 in
theorem find1_calls (q : Nat) (x pos : Int) (w : World) (h : w.cell? ⟨q, 0, none⟩ = some (.int .i64 x)) :
    Calls Tryz.prog 84 #[ptrV q, .int .i64 pos] w fun e w' => e = .returned (.int .i64 (Lib.compareInt x pos)) ∧ ∃ n, w' = w.drewN n := by
  unfold ptrV
  have u1 := hide (fun w => Tryz.cmp_Compare_int x pos w)
  go_enter Tryz.func84, Tryz.ntmps84
  go_wp2_with (go_at_call 85; refine (u1.out _).mono ?_; rintro e w' ⟨rfl, hw'⟩; subst hw')
  go_ret
  exact ⟨rfl, 0, rfl⟩

/-- How many of rising numbers are below x. -/
def belowN (l : List Int) (x : Int) : Nat := l.countP fun y => decide (y < x)

theorem belowN_at : ∀ (l : List Int) (x : Int) (i : Nat), i ≤ l.length → (∀ t, t < i → l.getD t 0 < x) → (∀ t, i ≤ t → t < l.length → x ≤ l.getD t 0) → belowN l x = i
  | [], x, i, hi, _, _ => by simp at hi; simp [belowN, hi]
  | a :: r, x, 0, _, _, h2 => by
    unfold belowN
    rw [List.countP_eq_zero]
    intro y hy
    obtain ⟨t, ht, rfl⟩ := List.getElem_of_mem hy
    have := h2 t (Nat.zero_le _) ht
    rw [List.getD_eq_getElem?_getD, List.getElem?_eq_getElem ht, Option.getD_some] at this
    simp; omega
  | a :: r, x, i + 1, hi, h1, h2 => by
    have ha : a < x := by simpa using h1 0 (Nat.succ_pos _)
    have := belowN_at r x i (by simpa using hi) (fun t ht => by simpa using h1 (t + 1) (by omega)) (fun t h3 h4 => by simpa using h2 (t + 1) (by omega) (by simpa using h4))
    unfold belowN at this ⊢
    rw [List.countP_cons_of_pos (by simpa using ha), this]

/-- Is x at the place where it would stand? -/
def isAt (l : List Int) (x : Int) : Bool := decide (belowN l x < l.length) && decide (l.getD (belowN l x) 0 = x)

theorem compareInt_lt (x y : Int) : Lib.compareInt x y < 0 ↔ x < y := by
  unfold Lib.compareInt
  split
  · simp; omega
  · split <;> omega
theorem compareInt_eq (x y : Int) : Lib.compareInt x y = 0 ↔ x = y := by
  unfold Lib.compareInt
  split
  · simp; omega
  · split <;> omega
theorem compareInt_in (x y : Int) : -1 ≤ Lib.compareInt x y ∧ Lib.compareInt x y ≤ 1 := by
  unfold Lib.compareInt
  split
  · simp
  · split <;> simp

set_option maxHeartbeats 4000000 in
set_option maxRecDepth 100000 in
theorem bsearch_calls (B : Nat) (v : Value) (qs : List Nat) (ps : List Int) (pos : Int) (w : World) (hr : w.ownsRow B 106 1 v qs.length (qs.map ptrV)) (hl : qs.length ≤ 1099511627776) (hps : ps.length = qs.length)
    (hc : ∀ i, i < qs.length → w.cell? ⟨qs.getD i 0, 0, none⟩ = some (.int .i64 (ps.getD i 0))) (hs : ∀ a b, a ≤ b → b < ps.length → ps.getD a 0 ≤ ps.getD b 0) :
    Calls Tryz.prog 83 #[v, .int .i64 pos, .func (.func 84) #[] #[]] w fun e w' => e = .returned (.tuple #[.int .i64 (belowN ps pos : Nat), .bool (isAt ps pos)]) ∧ ∃ n, w' = w.drewN n := by
  obtain ⟨cnt, hcnt⟩ : ∃ cnt, belowN ps pos = cnt := ⟨_, rfl⟩
  obtain ⟨fin, hfin⟩ : ∃ fin, isAt ps pos = fin := ⟨_, rfl⟩
  unfold isAt at hfin
  rw [hcnt, hps] at hfin
  rw [hcnt, show isAt ps pos = fin by unfold isAt; rw [hcnt, hps]; exact hfin]
  obtain ⟨n, hn⟩ : ∃ n, qs.length = n := ⟨_, rfl⟩
  obtain ⟨a, cap, rfl⟩ := ownsRow_slice hr
  have hrc : ∀ j, j < n → ∃ b, a = some ⟨b, 0, none⟩ ∧ w.cell? ⟨b, j, none⟩ = some (ptrV (qs.getD j 0)) := by
    intro j hj
    rcases hr.2 with ⟨e, h0⟩ | ⟨g, cap', cur, e, hb, hg, hnc, hcm, hcs, ht⟩
    · omega
    · simp only [Value.slice.injEq, true_and] at e
      obtain ⟨rfl, rfl⟩ := e
      refine ⟨g, rfl, ?_⟩
      rw [hr.cellAt j (by omega)]
      simp [hn, hj, List.getElem?_eq_getElem (show j < qs.length by omega)]
  rw [hn] at hl hc hps hfin ⊢
  have HC := hide hc
  have HR := hide hrc
  have HS := hide hs
  have CN := hide hcnt
  have FIN := hide hfin
  have HPS := hide hps
  clear hc hrc hs hcnt hfin hr hps
  go_enter Tryz.func83, Tryz.ntmps83
  go_wp2
  go_loopg [9, 10] n (fun kx s9 s10 wr => ∃ lo hi q : Nat, s9 = .int .i64 lo ∧ s10 = .int .i64 hi ∧ lo ≤ hi ∧ hi ≤ n ∧ hi - lo ≤ kx ∧ wr = w.drewN q ∧
    Hid ((∀ t, t < lo → ps.getD t 0 < pos) ∧ (∀ t, hi ≤ t → t < n → pos ≤ ps.getD t 0)))
  case atStart => exact ⟨0, n, 0, rfl, rfl, Nat.zero_le _, Nat.le_refl _, by omega, rfl, (⟨fun t ht => absurd ht (Nat.not_lt_zero _), fun t h1 h2 => by omega⟩ : (∀ t, t < 0 → ps.getD t 0 < pos) ∧ (∀ t, n ≤ t → t < n → pos ≤ ps.getD t 0))⟩
  case round =>
    obtain ⟨lo, hi, q, rfl, rfl, hlh, hin, hg, rfl, I⟩ := hrel
    by_cases hlt : lo < hi
    · obtain ⟨b, eb, cm⟩ := HR.out ((lo + hi) / 2) (by omega)
      subst eb
      have cy := HC.out ((lo + hi) / 2) (by omega)
      obtain ⟨y, hy⟩ : ∃ y, ps.getD ((lo + hi) / 2) 0 = y := ⟨_, rfl⟩
      obtain ⟨qy, hqy⟩ : ∃ qy, qs.getD ((lo + hi) / 2) 0 = qy := ⟨_, rfl⟩
      rw [hy, hqy] at cy
      rw [hqy] at cm
      have Y := hide hy
      clear hy hqy
      have u1 := hide (fun q => find1_calls qy y pos (w.drewN q) cy)
      have hin1 := compareInt_in y pos
      have hlt1 := compareInt_lt y pos
      unfold ptrV at cm u1
      generalize Lib.compareInt y pos = c at *
      have hlt' : (lo : Int) < (hi : Int) := by omega
      have cm' : (w.drewN q).cell? ⟨b, (lo + hi) / 2, none⟩ = some (.pointer (some ⟨qy, 0, none⟩)) := cm
      by_cases hyx : y < pos
      · have hc0 : c < 0 := hlt1.2 hyx
        clear hlt1
        go_wp2_with (go_at_call 84; refine (u1.out _).mono ?_; rintro e w' ⟨rfl, nq, hw'⟩; subst hw')
        go_roundg (hi - ((lo + hi) / 2 + 1))
        case measure => omega
        case rel =>
          have I2 : Hid ((∀ t, t < (lo + hi) / 2 + 1 → ps.getD t 0 < pos) ∧ (∀ t, hi ≤ t → t < n → pos ≤ ps.getD t 0)) := ⟨fun t ht => by have := HS.out t ((lo + hi) / 2) (by omega) (by have := HPS.out; omega); rw [Y.out] at this; omega, I.out.2⟩
          exact ⟨(lo + hi) / 2 + 1, hi, _, by rw [show ((lo : Int) + (hi : Int)) / 2 + 1 = (((lo + hi) / 2 + 1 : Nat) : Int) by omega], rfl, by omega, hin, Nat.le_refl _, rfl, I2⟩
      · have hc0 : ¬ c < 0 := fun h => hyx (hlt1.1 h)
        clear hlt1
        go_wp2_with (go_at_call 84; refine (u1.out _).mono ?_; rintro e w' ⟨rfl, nq, hw'⟩; subst hw')
        go_roundg ((lo + hi) / 2 - lo)
        case measure => omega
        case rel =>
          have I2 : Hid ((∀ t, t < lo → ps.getD t 0 < pos) ∧ (∀ t, (lo + hi) / 2 ≤ t → t < n → pos ≤ ps.getD t 0)) := ⟨I.out.1, fun t ht htn => by have := HS.out ((lo + hi) / 2) t ht (by have := HPS.out; omega); rw [Y.out] at this; omega⟩
          exact ⟨lo, (lo + hi) / 2, _, rfl, by rw [show ((lo : Int) + (hi : Int)) / 2 = (((lo + hi) / 2 : Nat) : Int) by omega], by omega, by omega, Nat.le_refl _, rfl, I2⟩
    · obtain rfl : hi = lo := by omega
      have ecnt : cnt = hi := by
        rw [← CN.out]
        have := HPS.out
        exact belowN_at ps pos hi (by omega) I.out.1 fun t h1 h2 => I.out.2 t h1 (by omega)
      subst ecnt
      have F := FIN.out
      by_cases hn : cnt < n
      · obtain ⟨b, eb, cm⟩ := HR.out cnt hn
        subst eb
        have cy := HC.out cnt hn
        obtain ⟨y, hy⟩ : ∃ y, ps.getD cnt 0 = y := ⟨_, rfl⟩
        obtain ⟨qy, hqy⟩ : ∃ qy, qs.getD cnt 0 = qy := ⟨_, rfl⟩
        rw [hy, hqy] at cy
        rw [hqy] at cm
        rw [hy] at F
        clear hy hqy
        have u1 := hide (fun q => find1_calls qy y pos (w.drewN q) cy)
        have hin1 := compareInt_in y pos
        have heq1 := compareInt_eq y pos
        unfold ptrV at cm u1
        generalize Lib.compareInt y pos = c at *
        have hn' : (cnt : Int) < (n : Int) := by omega
        have cm' : (w.drewN q).cell? ⟨b, cnt, none⟩ = some (.pointer (some ⟨qy, 0, none⟩)) := cm
        by_cases hyx : y = pos
        · have hc0 : c = 0 := heq1.2 hyx
          have e2 : fin = true := by rw [← F]; simp [hn, hyx]
          subst e2
          clear heq1 F FIN
          go_wp2_with (go_at_call 84; refine (u1.out _).mono ?_; rintro e w' ⟨rfl, nq, hw'⟩; subst hw')
          go_ret2
          exact ⟨rfl, _, rfl⟩
        · have hc0 : ¬ c = 0 := fun h => hyx (heq1.1 h)
          have e2 : fin = false := by rw [← F]; simp [hyx]
          subst e2
          clear heq1 F FIN
          go_wp2_with (go_at_call 84; refine (u1.out _).mono ?_; rintro e w' ⟨rfl, nq, hw'⟩; subst hw')
          go_ret2
          exact ⟨by simp [hc0], _, rfl⟩
      · have e2 : fin = false := by rw [← F]; simp [hn]
        subst e2
        have hn' : ¬ (cnt : Int) < (n : Int) := by omega
        clear F FIN
        go_wp2
        go_ret2
        exact ⟨rfl, _, rfl⟩

end Go.Proofs.YtncmocmmkbmmjaaGreatDoor

/- slices.Insert of one pointer into a row of one's own. Own work; no statement. -/
set_option linter.unusedSimpArgs false
set_option linter.unusedVariables false
namespace Go.Proofs.YtncmocmmkbmmjaaGreatDoor
open Go.RowKit Go.Shelf Go.Sort Go.Lib

theorem Tryz.isz106 : (Tryz.prog.info? 106).map (·.size) = some 1 := by kernel_rfl
theorem Tryz.mixed : Tryz.prog.follows .mixedOrders = true := by kernel_rfl

/-- A row with one more at a place. -/
def insL {α : Type} (l : List α) (i : Nat) (x : α) : List α := l.take i ++ x :: l.drop i

theorem insL_length {α : Type} (l : List α) (i : Nat) (x : α) (h : i ≤ l.length) : (insL l i x).length = l.length + 1 := by
  unfold insL
  simp
  omega
theorem insL_end {α : Type} (l : List α) (x : α) : insL l l.length x = l ++ [x] := by simp [insL]

set_option maxHeartbeats 4000000 in
set_option maxRecDepth 100000 in
theorem insEnd_calls (B : Nat) (v : Value) (n : Nat) (cs : List Value) (vb : Nat) (x : Value) (w : World) (hr : w.ownsRow B 106 1 v n cs) (hB : B ≤ w.heap.size) (hn : n ≤ 1048576) (hx : w.cell? ⟨vb, 0, none⟩ = some x) (h1 : x.oneCell' = true) :
    Calls Tryz.prog 67 #[v, .int .i64 (n : Int), .slice (some ⟨vb, 0, none⟩) 1 1] w fun e w' => ∃ v', e = .returned v' ∧ w'.ownsRow B 106 1 v' (n + 1) (cs ++ [x]) ∧ Touch (fun k => v.ownBlock = some k) w w' ∧ (∀ k, v'.ownBlock = some k → v.ownBlock = some k ∨ w.heap.size ≤ k) := by
  obtain ⟨i0, hi0, hz0, hz1, hz2⟩ := info_parts Tryz.info106
  obtain ⟨a, cap, rfl⟩ := ownsRow_slice hr
  have Hr := hide hr
  clear hr
  have hnc : n ≤ cap := by
    rcases Hr.out.2 with ⟨e, h0⟩ | ⟨g, cap', cur, e, _, _, hnc, _⟩
    · omega
    · simp only [Value.slice.injEq, true_and] at e; omega
  have hcm : cap ≤ 9223372036854775807 := by
    rcases Hr.out.2 with ⟨e, h0⟩ | ⟨g, cap', cur, e, _, _, hnc, hcm, _⟩
    · simp only [Value.slice.injEq] at e; omega
    · simp only [Value.slice.injEq, true_and] at e; unfold maxLen at hcm; omega
  have T : ∀ (a : Option Addr) (c : Nat) (v' : Value) (w' : World), w'.ownsRow B 106 1 v' (n + 1) (cs ++ [x]) → w.grownBy w' (Value.slice a n c).ownBlock → (v'.ownBlock = (Value.slice a n c).ownBlock ∨ v'.ownBlock = some w.heap.size) →
      ∃ v'', Ending.returned v' = .returned v'' ∧ w'.ownsRow B 106 1 v'' (n + 1) (cs ++ [x]) ∧ Touch (fun k => (Value.slice a n c).ownBlock = some k) w w' ∧ (∀ k, v''.ownBlock = some k → (Value.slice a n c).ownBlock = some k ∨ w.heap.size ≤ k) := by
    intro a c v' w' hown hgrow hat
    refine ⟨v', rfl, hown, ⟨hgrow.os, hgrow.tape, hgrow.output, hgrow.size, fun k hk hS => hgrow.block k hk fun e => hS e.symm⟩, fun k hk => ?_⟩
    rcases hat with e | e
    · exact .inl (e.symm.trans hk)
    · rw [hk] at e; cases e; exact .inr (Nat.le_refl _)
  have q1 : ∀ j u, ([x] : List Value)[j]? = some u → w.cell? ((⟨vb, 0, none⟩ : Addr).add j) = some u := by
    intro j u hj
    cases j with
    | zero => simp at hj; subst hj; exact hx
    | succ j => simp at hj
  have q2 : ∀ u ∈ ([x] : List Value), u.oneCell' = true := by intro u hu; rw [List.mem_singleton.1 hu]; exact h1
  have HT := hide T
  have Q1 := hide q1
  have Q2 := hide q2
  clear T q1 q2 h1 hx
  by_cases hcn : cap = n
  · subst hcn
    go_enter Tryz.func67, Tryz.ntmps67
    go_wp2_with (at_builtin; refine wpList_append_own_at _ rfl _ _ 80 rfl B 106 i0 (.pointer none) 1 8 Tryz.underlying80 hi0 hz0 hz1 hz2 rfl (by decide) _ cap cs rfl Hr.out ⟨vb, 0, none⟩ 1 1 [x] rfl rfl Q1.out Q2.out (by unfold maxLen; omega) (by omega) hB ?_; intro v' w' hown hgrow hnil hat)
    have F := hide (HT.out _ _ v' w' hown hgrow hat)
    clear hown hgrow hnil hat
    go_ret
    exact F.out
  · go_enter Tryz.func67, Tryz.ntmps67
    go_wp2_with (at_builtin; refine wpList_append_own_at _ rfl _ _ 80 rfl B 106 i0 (.pointer none) 1 8 Tryz.underlying80 hi0 hz0 hz1 hz2 rfl (by decide) _ n cs rfl Hr.out ⟨vb, 0, none⟩ 1 1 [x] rfl rfl Q1.out Q2.out (by unfold maxLen; omega) (by omega) hB ?_; intro v' w' hown hgrow hnil hat)
    have F := hide (HT.out _ _ v' w' hown hgrow hat)
    clear hown hgrow hnil hat
    go_ret
    exact F.out

/-- overlaps at two blocks. -/
theorem overlaps_no (w : World) (b vb : Nat) (x : Value) (cur : Array Value) (n lb cb off : Nat) (hvb : vb ≠ b) (hb : w.heap[b]? = some (.cells cur 106 (0, 0))) (hk : 0 < cur.size) (hv : w.heap[vb]? = some (.cells #[x] 106 (0, 0))) :
    (callFunc 90 #[.slice (some ⟨vb, 0, none⟩) 1 n, .slice (some ⟨b, off, none⟩) lb cb]).run Tryz.prog w = .ok (.value (.bool false)) w := by
  rw [run_callFunc_extern Tryz.func90 (by kernel_rfl) (by kernel_rfl) (by kernel_rfl) (e := Extern.SlicesOverlaps.overlaps #[80, 80] #[4]) (by kernel_rfl),
    Lib.run_overlaps_apart w 80 4 106 Tryz.underlying80 1 Tryz.sizeOf106 ⟨vb, 0, none⟩ ⟨b, off, none⟩ 1 n lb cb hvb 106 106 1 cur.size (by simp [World.shape?, hv]) (by simp [World.shape?, hb]) (by omega) (frozenAt hv _) (frozenAt hv _)]
  rfl

set_option maxHeartbeats 4000000 in
set_option maxRecDepth 100000 in
theorem insRoom_calls (b n c i vb : Nat) (cs : List Value) (cur : Array Value) (x : Value) (w : World) (hi : i < n) (hroom : n + 1 ≤ c) (hc63 : c ≤ 9223372036854775807) (hvb : vb ≠ b) (hcl : cs.length = n)
    (hg : w.heap[b]? = some (.cells cur 106 (0, 0))) (hcs : cur.size = c) (ht : cur.toList.take n = cs) (hv : w.heap[vb]? = some (.cells #[x] 106 (0, 0))) (h1c : ∀ v ∈ cs, v.oneCell' = true) (h1 : x.oneCell' = true) :
    Calls Tryz.prog 67 #[.slice (some ⟨b, 0, none⟩) n c, .int .i64 (i : Int), .slice (some ⟨vb, 0, none⟩) 1 1] w fun e w' => e = .returned (.slice (some ⟨b, 0, none⟩) (n + 1) c) ∧
      w' = (w.drew.setCells b (i + 1) (cs.drop i)).setCells b i [x] := by
  have hz2 : ¬ ((i : Int) = (n : Int)) := by omega
  have hdl : (cs.drop i).length = n - i := by rw [List.length_drop, hcl]
  have hw1 : IntKind.i64.wrap ((i : Int) + 1) = (i : Int) + 1 := by rw [IntKind.wrap_i64]; omega
  have hb1 : (0 : Int) ≤ (i : Int) + 1 := by omega
  have hin : i ≤ n := by omega
  have htn : ((i : Int) + 1).toNat = i + 1 := by omega
  have hb2 : ¬ (c = i + 1) := by omega
  have hb3 : (i : Int) ≤ (n : Int) + 1 := by omega
  have hb4 : ¬ (c = i) := by omega
  have hov : ∀ lb cb, (callFunc 90 #[.slice (some ⟨vb, 0, none⟩) 1 1, .slice (some ⟨b, i + 1, none⟩) lb cb]).run Tryz.prog w = .ok (.value (.bool false)) w := fun lb cb => overlaps_no w b vb x cur 1 lb cb (i + 1) hvb hg (by omega) hv
  have hsz := Tryz.isz106
  have hcell : ∀ j, j < c → (w.cell? ⟨b, j, none⟩).isSome = true := fun j hj => by rw [cellsAt hg j, Array.getElem?_eq_getElem (by omega)]; rfl
  have hcp1 : ∀ ty dc sc, (Builtin.copy_ #[80, 80] ty #[.slice (some ⟨b, i + 1, none⟩) (n - i) dc, .slice (some ⟨b, i, none⟩) (n + 1 - i) sc]).run Tryz.prog w.drew = .ok (goInt (cs.drop i).length) (w.drew.setCells b (i + 1) (cs.drop i)) := fun ty dc sc =>
    run_copy_cells w.drew _ _ ty 106 b (i + 1) (n - i) dc ⟨b, i, none⟩ (n + 1 - i) sc (cs.drop i) Tryz.underlying80 hsz (by rw [hdl]; simp only [Nat.min_def]; split <;> omega)
      (fun j v hj => by
        rw [Addr.add_lit]
        show w.cell? _ = _
        rw [cellsAt hg]
        rw [List.getElem?_drop, ← ht, List.getElem?_take] at hj
        split at hj
        · rw [← Array.getElem?_toList]; exact hj
        · cases hj)
      (fun j hj => hcell _ (by omega)) (fun j hj => frozenAt (W := w.drew) hg _) (fun v hv => h1c v (List.mem_of_mem_drop hv))
  obtain ⟨W1, hW1⟩ : ∃ W1, W1 = w.drew.setCells b (i + 1) (cs.drop i) := ⟨_, rfl⟩
  have hg1 : W1.heap[b]? = some (.cells (setL cur (i + 1) (cs.drop i)) 106 (0, 0)) := by rw [hW1]; exact heap_setCells _ _ w.drew cur hg
  have hv1 : W1.heap[vb]? = some (.cells #[x] 106 (0, 0)) := by
    rw [hW1]
    exact ((touch_setCells (S := fun k => k = b) rfl (cs.drop i) (i + 1) w.drew).block vb (ltAt hv) hvb).trans hv
  have hcp2 : ∀ (W : World), W.heap = W1.heap → ∀ ty dc, (Builtin.copy_ #[80, 80] ty #[.slice (some ⟨b, i, none⟩) (n + 1 - i) dc, .slice (some ⟨vb, 0, none⟩) 1 1]).run Tryz.prog W = .ok (goInt ([x] : List Value).length) (W.setCells b i [x]) := fun W hW ty dc =>
    run_copy_cells W _ _ ty 106 b i (n + 1 - i) dc ⟨vb, 0, none⟩ 1 1 [x] Tryz.underlying80 hsz (by simp only [Nat.min_def, List.length_singleton]; split <;> omega)
      (fun j v hj => by
        rw [Addr.add_lit, Nat.zero_add, cellsAt (W := W) (by rw [hW]; exact hv1)]
        cases j with
        | zero => simpa using hj
        | succ j => simp at hj)
      (fun j hj => by rw [cellsAt (W := W) (by rw [hW]; exact hg1), Array.getElem?_eq_getElem (by rw [setL_size]; simp at hj; omega)]; rfl) (fun j hj => frozenAt (W := W) (by rw [hW]; exact hg1) _) (fun v hv => by rw [List.mem_singleton.1 hv]; exact h1)
  rw [← hW1] at hcp1
  have Hg := hide hg
  have Hv := hide hv
  have Hg1 := hide hg1
  have Hv1 := hide hv1
  have Hcell := hide hcell
  clear hg hv hg1 hv1 hcell ht
  have hmx := Tryz.mixed
  go_enter Tryz.func67, Tryz.ntmps67
  go_wp2_with (simp only [hov])
  go_region_law_o (refine step_copy_runI rfl _ _ 80 80 rfl _ _ (by simp [Act.eval, Act.put]) (by simp [Act.eval, Act.put]) (hcp1 _ _ _) ?_)
  go_wp2_with (at_builtin; refine wpList_copy_runI _ rfl _ _ 80 80 rfl _ _ rfl rfl (hcp2 _ rfl _ _) ?_)
  go_ret
  first | exact ⟨rfl, rfl⟩ | exact ⟨rfl, by rw [hW1]⟩

end Go.Proofs.YtncmocmmkbmmjaaGreatDoor

/- slices.Insert of one pointer where there is no room; all ways of it together. Own work; no statement. -/
set_option linter.unusedSimpArgs false
set_option linter.unusedVariables false
namespace Go.Proofs.YtncmocmmkbmmjaaGreatDoor
open Go.RowKit Go.Shelf Go.Sort Go.Lib

theorem isSome_cells {W : World} {b j : Nat} {c : Array Value} {t : TypeId} {f : Nat × Nat} (h : W.heap[b]? = some (.cells c t f)) (hj : j < c.size) : (W.cell? ⟨b, j, none⟩).isSome = true := by
  rw [cellsAt h j, Array.getElem?_eq_getElem hj]; rfl

set_option maxHeartbeats 4000000 in
set_option maxRecDepth 100000 in
theorem insGrow_calls (b n c i vb : Nat) (cs : List Value) (cur : Array Value) (x : Value) (w : World) (hi : i < n) (hnc : n ≤ c) (hroom : c < n + 1) (hbig : n ≤ 1048576) (hvb : vb ≠ b) (hcl : cs.length = n)
    (hg : w.heap[b]? = some (.cells cur 106 (0, 0))) (hcs : cur.size = c) (ht : cur.toList.take n = cs) (hv : w.heap[vb]? = some (.cells #[x] 106 (0, 0))) (h1c : ∀ v ∈ cs, v.oneCell' = true) (h1 : x.oneCell' = true) :
    Calls Tryz.prog 67 #[.slice (some ⟨b, 0, none⟩) n c, .int .i64 (i : Int), .slice (some ⟨vb, 0, none⟩) 1 1] w fun e w' => ∃ G ROW, e = .returned (.slice (some ⟨w.heap.size, 0, none⟩) (n + 1) G) ∧ n + 1 ≤ G ∧ G ≤ maxLen ∧
      w'.heap[w.heap.size]? = some (.cells (setL (setL ROW i [x]) (i + 1) (cs.drop i)) 106 (0, 0)) ∧ ROW.size = G ∧ ROW.toList.take i = cs.take i ∧ Below w.heap.size w w' := by
  obtain ⟨i0, hi0, hz0, hzs, hzb⟩ := info_parts Tryz.info106
  have hz2 : ¬ ((i : Int) = (n : Int)) := by omega
  have hz3 : (c : Int) < (n : Int) + 1 := by omega
  have hsz := Tryz.isz106
  have hbw : b < w.heap.size := ltAt hg
  have hvw : vb < w.heap.size := ltAt hv
  have hcell : ∀ j v, cs[j]? = some v → w.cell? ⟨b, j, none⟩ = some v := fun j v hj => by
    rw [cellsAt hg]
    rw [← ht, List.getElem?_take] at hj
    split at hj
    · rw [← Array.getElem?_toList]; exact hj
    · cases hj
  have hkk : (n : Int) + 1 - (i : Int) = ((n + 1 - i : Nat) : Int) := by omega
  have hik : i + (n + 1 - i) = n + 1 := by omega
  have hold : (Builtin.firstCells i0.size i (.slice (some ⟨b, 0, none⟩) i c)).run Tryz.prog w.drew = .ok (cs.take i).toArray w.drew := by
    rw [hzs]
    exact run_firstCells_some w.drew 1 i ⟨b, 0, none⟩ i c (cs.take i) (by rw [List.length_take]; omega) (fun j v hj => by
      rw [Addr.add_lit, Nat.zero_add]
      rw [List.getElem?_take] at hj
      split at hj
      · exact hcell j v hj
      · cases hj)
  have hrz : ∀ ty, (Builtin.append_ #[80, 3] ty #[.slice (some ⟨b, 0, none⟩) i c, .int .i64 ((n : Int) + 1 - (i : Int))]).run Tryz.prog w =
      .ok (.slice (some ⟨w.heap.size, 0, none⟩) (n + 1) (grownCap w (n + 1) c 106)) (w.drew.alloc (.cells ((cs.take i).toArray ++ Builtin.zeroCells (Value.pointer none).cells (n + 1 - i) ++ Builtin.zeroCells (Value.pointer none).cells (grownCap w (n + 1) c 106 - (n + 1))) 106)) := fun ty => by
    have h := Lib.run_append_grow_zeros w 80 3 ty 106 i0 _ .i64 .i64 Tryz.underlying80 Tryz.underlying3 hi0 hz0 (some ⟨b, 0, none⟩) i c (cs.take i) hold (n + 1 - i) (by omega) (by omega) (by omega) (by omega) (by rw [hzb]; omega) (by rw [hzb, hik]; exact growslice_fits hroom (by omega))
    rw [hik] at h
    rw [hkk]
    exact h
  obtain ⟨G, hG⟩ : ∃ G, G = grownCap w (n + 1) c 106 := ⟨_, rfl⟩
  obtain ⟨ROW, hROW⟩ : ∃ ROW : Array Value, ROW = (cs.take i).toArray ++ Builtin.zeroCells (Value.pointer none).cells (n + 1 - i) ++ Builtin.zeroCells (Value.pointer none).cells (G - (n + 1)) := ⟨_, rfl⟩
  rw [← hG] at hrz
  rw [← hROW] at hrz
  have hGn : n + 1 ≤ G := by rw [hG]; exact grownCap_ge w _ _ _
  have hGm : G ≤ maxLen := by rw [hG]; exact grownCap_le_maxLen w (n + 1) c 106 (by unfold maxLen; omega)
  have hG63 : G ≤ 9223372036854775807 := by unfold maxLen at hGm; omega
  have hRl : ROW.size = G := by
    rw [hROW]
    simp [Builtin.zeroCells, Value.cells]
    omega
  have hRt : ROW.toList.take i = cs.take i := by
    rw [hROW]
    simp
    rw [List.take_append_of_le_length (by simp; omega), List.take_take, Nat.min_self]
  obtain ⟨W1, hW1⟩ : ∃ W1, W1 = w.drew.alloc (.cells ROW 106) := ⟨_, rfl⟩
  rw [← hW1] at hrz
  have hb1 : W1.heap[w.heap.size]? = some (.cells ROW 106 (0, 0)) := by rw [hW1]; exact World.alloc_heap_new w.drew _
  have hB1 : Below w.heap.size w W1 := by rw [hW1]; exact (below_draws (B := w.heap.size) (w := w) 1).trans ((Below.refl _ w.drew).alloc (Nat.le_refl _) _)
  have hcpA : ∀ (W : World), W.heap = W1.heap → ∀ ty dc, (Builtin.copy_ #[80, 80] ty #[.slice (some ⟨w.heap.size, i, none⟩) (n + 1 - i) dc, .slice (some ⟨vb, 0, none⟩) 1 1]).run Tryz.prog W = .ok (goInt ([x] : List Value).length) (W.setCells w.heap.size i [x]) := fun W hW ty dc =>
    run_copy_cells W _ _ ty 106 w.heap.size i (n + 1 - i) dc ⟨vb, 0, none⟩ 1 1 [x] Tryz.underlying80 hsz (by simp only [Nat.min_def, List.length_singleton]; split <;> omega)
      (fun j v hj => by
        rw [Addr.add_lit, Nat.zero_add, cellsAt (W := W) (by rw [hW]; exact (hB1.block vb hvw).trans hv)]
        cases j with
        | zero => simpa using hj
        | succ j => simp at hj)
      (fun j hj => isSome_cells (W := W) (by rw [hW]; exact hb1) (by simp at hj; omega)) (fun j hj => frozenAt (W := W) (by rw [hW]; exact hb1) _) (fun v hv => by rw [List.mem_singleton.1 hv]; exact h1)
  have hGi : ¬ (G = i) := by omega
  have hGim : ¬ (G = i + 1) := by omega
  have hci : ¬ (c = i) := by omega
  have hbN : b ≠ w.heap.size := by omega
  have hdl : (cs.drop i).length = n - i := by rw [List.length_drop, hcl]
  obtain ⟨W2, hW2⟩ : ∃ W2, W2 = W1.setCells w.heap.size i [x] := ⟨_, rfl⟩
  have hb2 : W2.heap[w.heap.size]? = some (.cells (setL ROW i [x]) 106 (0, 0)) := by rw [hW2]; exact heap_setCells _ _ _ _ hb1
  have hB2 : Below w.heap.size w W2 := by
    rw [hW2]
    exact hB1.trans ((touch_setCells (S := fun k => k = w.heap.size) rfl [x] i W1).below hB1.size fun k _ h => by omega)
  have hcpB : ∀ (W : World), W.heap = W2.heap → ∀ ty dc sc, (Builtin.copy_ #[80, 80] ty #[.slice (some ⟨w.heap.size, i + 1, none⟩) (n - i) dc, .slice (some ⟨b, i, none⟩) (n - i) sc]).run Tryz.prog W = .ok (goInt (cs.drop i).length) (W.setCells w.heap.size (i + 1) (cs.drop i)) := fun W hW ty dc sc =>
    run_copy_cells W _ _ ty 106 w.heap.size (i + 1) (n - i) dc ⟨b, i, none⟩ (n - i) sc (cs.drop i) Tryz.underlying80 hsz (by rw [hdl]; simp only [Nat.min_def]; split <;> omega)
      (fun j v hj => by
        rw [Addr.add_lit, cellsAt (W := W) (by rw [hW]; exact (hB2.block b hbw).trans hg), ← cellsAt hg]
        exact hcell (i + j) v (by rwa [List.getElem?_drop] at hj))
      (fun j hj => isSome_cells (W := W) (by rw [hW]; exact hb2) (by rw [setL_size]; omega))
      (fun j hj => frozenAt (W := W) (by rw [hW]; exact hb2) _) (fun v hv => h1c v (List.mem_of_mem_drop hv))
  have hfin : ∀ W : World, W.heap = W2.heap → W.os = w.os → W.tape = w.tape → W.output = w.output → (W.setCells w.heap.size (i + 1) (cs.drop i)).heap[w.heap.size]? = some (.cells (setL (setL ROW i [x]) (i + 1) (cs.drop i)) 106 (0, 0)) ∧ Below w.heap.size w (W.setCells w.heap.size (i + 1) (cs.drop i)) := fun W hW h1 h2 h3 => by
    refine ⟨heap_setCells _ _ _ _ (by rw [hW]; exact hb2), ?_⟩
    have hBW : Below w.heap.size w W := ⟨h1, h2, h3, by rw [hW]; exact hB2.size, fun k hk => by rw [hW]; exact hB2.block k hk⟩
    exact hBW.trans ((touch_setCells (S := fun k => k = w.heap.size) rfl _ _ W).below hBW.size fun k _ h => by omega)
  have hE : ((w.alloc (.cells ROW 106)).drew).heap = W1.heap := by rw [hW1]; rfl
  have hF : (((w.alloc (.cells ROW 106)).drew.setCells w.heap.size i [x]).drew).heap = W2.heap := by rw [hW2, hW1]; rfl
  have HF := hide (hfin ((((w.alloc (.cells ROW 106)).drew.setCells w.heap.size i [x]).drew)) hF rfl rfl rfl)
  have hw1 : IntKind.i64.wrap ((i : Int) + 1) = (i : Int) + 1 := by rw [IntKind.wrap_i64]; omega
  have hb1' : (0 : Int) ≤ (i : Int) + 1 := by omega
  have hin : i ≤ n := by omega
  have htn : ((i : Int) + 1).toNat = i + 1 := by omega
  have hb3 : (i : Int) ≤ (n : Int) := by omega
  have HR := hide hRl
  have HT := hide hRt
  subst hW1
  clear hkk hik hold hROW hG hRl hRt hb1 hB1 hb2 hB2 hfin hg hv hcell ht
  have hmx := Tryz.mixed
  go_enter Tryz.func67, Tryz.ntmps67
  go_wp2_with (first
    | (at_builtin; refine Lib.wpList_append_run _ rfl _ _ _ _ rfl _ _ rfl rfl _ _ (hrz _) ?_)
    | (at_builtin; refine wpList_copy_runI _ rfl _ _ 80 80 rfl _ _ rfl rfl (hcpA _ hE _ _) ?_))
  go_region_law_o (refine step_copy_runI rfl _ _ 80 80 rfl (.slice (some ⟨w.heap.size, i + 1, none⟩) (n - i) (G - (i + 1))) (.slice (some ⟨b, i, none⟩) (n - i) (c - i)) (by simp [Act.eval, Act.put]) (by simp [Act.eval, Act.put]) (hcpB _ hF 3 (G - (i + 1)) (c - i)) ?_)
  go_wp2
  go_ret
  exact ⟨G, ROW, rfl, hGn, hGm, HF.out.1, HR.out, HT.out, HF.out.2⟩

theorem row_of_parts {W : World} {B g n cap : Nat} {cur : Array Value} {e : TypeId} {xs : List Value} (hB : B ≤ g) (hg : W.heap[g]? = some (.cells cur e (0, 0))) (hn : n ≤ cap) (hc : cap ≤ maxLen) (hs : cur.size = cap) (hl : xs.length = n) (hx : ∀ k, k < n → cur[k]? = xs[k]?) :
    W.ownsRow B e 1 (.slice (some ⟨g, 0, none⟩) n cap) n xs := by
  refine ⟨by omega, .inr ⟨g, cap, cur, rfl, hB, hg, hn, hc, by omega, ?_⟩⟩
  apply List.ext_getElem?
  intro k
  by_cases hk : k < n
  · rw [List.getElem?_take_of_lt (by omega), Array.getElem?_toList]
    exact hx k hk
  · rw [List.getElem?_eq_none (by simp; omega), List.getElem?_eq_none (by omega)]

/-- What a row is with one more in it, cell by cell. -/
theorem insL_get {α : Type} (l : List α) (i : Nat) (x : α) (hi : i ≤ l.length) (k : Nat) : (insL l i x)[k]? = if k < i then l[k]? else if k = i then some x else l[k - 1]? := by
  unfold insL
  by_cases h : k < i
  · rw [if_pos h, List.getElem?_append_left (by simp; omega), List.getElem?_take_of_lt h]
  · rw [if_neg h, List.getElem?_append_right (by simp; omega), List.length_take, Nat.min_eq_left hi]
    by_cases h2 : k = i
    · subst h2
      rw [if_pos rfl, Nat.sub_self]
      rfl
    · obtain ⟨j, rfl⟩ : ∃ j, k = i + 1 + j := ⟨k - (i + 1), by omega⟩
      rw [if_neg h2, show i + 1 + j - i = j + 1 by omega, List.getElem?_cons_succ, List.getElem?_drop, show i + 1 + j - 1 = i + j by omega]

theorem insL_map {α β : Type} (f : α → β) (l : List α) (i : Nat) (x : α) : (insL l i x).map f = insL (l.map f) i (f x) := by
  simp [insL, List.map_take, List.map_drop]

theorem insSlot_calls (B : Nat) (v : Value) (qs : List Nat) (i vb q : Nat) (w : World) (hr : w.ownsRow B 106 1 v qs.length (qs.map ptrV)) (hB : B ≤ w.heap.size) (hn : qs.length ≤ 1048576) (hi : i ≤ qs.length) (hv : w.heap[vb]? = some (.cells #[ptrV q] 106 (0, 0))) (hvb : v.ownBlock ≠ some vb) :
    Calls Tryz.prog 67 #[v, .int .i64 (i : Int), .slice (some ⟨vb, 0, none⟩) 1 1] w fun e w' => ∃ v', e = .returned v' ∧ w'.ownsRow B 106 1 v' (insL qs i q).length ((insL qs i q).map ptrV) ∧ Touch (fun k => v.ownBlock = some k) w w' ∧ (∀ k, v'.ownBlock = some k → v.ownBlock = some k ∨ w.heap.size ≤ k) := by
  have hlen := insL_length qs i q hi
  by_cases hin : i = qs.length
  · subst hin
    have hx : w.cell? ⟨vb, 0, none⟩ = some (ptrV q) := by rw [cellsAt hv]; rfl
    refine (insEnd_calls B v qs.length (qs.map ptrV) vb (ptrV q) w hr hB hn hx rfl).mono ?_
    rintro e w' ⟨v', rfl, h1, h2, h3⟩
    refine ⟨v', rfl, ?_, h2, h3⟩
    rw [hlen, insL_end]
    simpa using h1
  · have hlt : i < qs.length := by omega
    rcases hr.2 with ⟨e, h0⟩ | ⟨b, c, cur, rfl, hb, hg, hnc, hcm, hcs, ht⟩
    · omega
    · have hvb' : vb ≠ b := fun e => hvb (by rw [e]; rfl)
      rw [Nat.mul_one] at ht hcs
      have hget : ∀ k, k < qs.length → cur[k]? = (qs.map ptrV)[k]? := fun k hk => by
        rw [← ht, List.getElem?_take_of_lt hk, Array.getElem?_toList]
      by_cases hroom : qs.length + 1 ≤ c
      · refine (insRoom_calls b qs.length c i vb (qs.map ptrV) cur (ptrV q) w hlt hroom (by unfold maxLen at hcm; exact hcm) hvb' (by simp) hg hcs ht hv ptr_one rfl).mono ?_
        rintro e w' ⟨rfl, rfl⟩
        refine ⟨_, rfl, ?_, ?_, fun k hk => .inl hk⟩
        · rw [hlen, insL_map]
          refine row_of_parts hb (heap_setCells _ _ _ _ (heap_setCells _ _ w.drew cur hg)) hroom hcm (by rw [setL_size, setL_size]; exact hcs) (by rw [insL_length _ _ _ (by simpa using hi)]; simp) fun k hk => ?_
          rw [insL_get _ _ _ (by simpa using hi), setL_get _ _ _ _ (by rw [setL_size]; omega)]
          by_cases h1 : k < i
          · rw [if_neg (by omega), if_pos h1, setL_get _ _ _ _ (by omega), if_neg (by omega)]
            exact hget k (by omega)
          · rw [if_neg h1]
            by_cases h2 : k = i
            · subst h2
              rw [if_pos (by simp), if_pos rfl, Nat.sub_self]
              rfl
            · rw [if_neg (by simp; omega), if_neg h2, setL_get _ _ _ _ (by omega), if_pos (by simp; omega), List.getElem?_drop]
              rw [show i + (k - (i + 1)) = k - 1 by omega]
        · exact ((touch_new (drewsB w 1)).trans (touch_setCells (S := fun k => (Value.slice (some ⟨b, 0, none⟩) qs.length c).ownBlock = some k) rfl _ _ _)).trans (touch_setCells (S := fun k => (Value.slice (some ⟨b, 0, none⟩) qs.length c).ownBlock = some k) rfl _ _ _)
      · refine (insGrow_calls b qs.length c i vb (qs.map ptrV) cur (ptrV q) w hlt hnc (by omega) hn hvb' (by simp) hg hcs ht hv ptr_one rfl).mono ?_
        rintro e w' ⟨G, ROW, rfl, hG, hGm, hg', hRs, hRt, hB'⟩
        refine ⟨_, rfl, ?_, touch_new hB', fun k hk => .inr (by cases hk; exact Nat.le_refl _)⟩
        rw [hlen, insL_map]
        refine row_of_parts hB hg' hG hGm (by rw [setL_size, setL_size]; exact hRs) (by rw [insL_length _ _ _ (by simpa using hi)]; simp) fun k hk => ?_
        rw [insL_get _ _ _ (by simpa using hi), setL_get _ _ _ _ (by rw [setL_size]; omega)]
        by_cases h1 : k < i
        · rw [if_neg (by omega), if_pos h1, setL_get _ _ _ _ (by omega), if_neg (by omega), ← Array.getElem?_toList, ← List.getElem?_take_of_lt h1, hRt, List.getElem?_take_of_lt h1]
        · rw [if_neg h1]
          by_cases h2 : k = i
          · subst h2
            rw [if_neg (by omega), if_pos rfl, setL_get _ _ _ _ (by omega), if_pos (by simp), Nat.sub_self]
            rfl
          · rw [if_pos (by simp; omega), if_neg h2, List.getElem?_drop]
            rw [show i + (k - (i + 1)) = k - 1 by omega]

end Go.Proofs.YtncmocmmkbmmjaaGreatDoor
