/- Own work: the parts D3, D3b, W11, W12, W13, W14 of the proof, laid together. -/
import Derived.Test.YtjbjjfndkpcciaaGreatDoorPartLogStripes2
import Derived.Lib.Bytealg
/- disk's Twin, Lines; the laws' Lines, SameLines. Own work; no statement. -/
set_option linter.unusedSimpArgs false
set_option linter.unusedVariables false
namespace Go.Proofs.YtjbjjfndkpcciaaGreatDoor
open Go.RowKit Go.Shelf

attribute [local go_sem] Oper.semAt_some

theorem IsDisk.lower {w : World} {B B' p : Nat} {g : Option Nat} {D : DiskD} (h : IsDisk w B p g D) (hB : B' ≤ B) : IsDisk w B' p g D := by
  obtain ⟨v, hv, hp, hr⟩ := h.val
  exact ⟨h.ok, Nat.le_trans hB h.low, v, hv, hp, ownsRow_low hr hB⟩

set_option maxHeartbeats 2000000 in
theorem diskTwin_calls (B p : Nat) (g : Option Nat) (D : DiskD) (w : World) (hd : IsDisk w B p g D) :
    Calls Tryz.prog 43 #[.pointer (some ⟨p, 0, none⟩)] w fun e w' => e = .returned (.pointer (some ⟨w.heap.size, 0, none⟩)) ∧ ∃ g', IsDisk w' w.heap.size w.heap.size g' D ∧ Below w.heap.size w w' := by
  obtain ⟨a, cap, c0, c1, c2, c3, hf, hv, hr, hp⟩ := hd.open
  have hl := hd.len
  have Hd := hide hd
  have Hr := hide hr
  have Hp := hide hp
  clear hd hr hp hv hf
  have c3' := fun o => Lib.cell?_alloc_some o c3
  have HB : Below w.heap.size w (w.alloc (.cells #[.int .i64 D.room, .int .i64 (bytesOf D.lines), .int .i64 D.lasts, .slice a D.lines.length cap] 129)) := (Below.refl _ w).alloc (Nat.le_refl _) _
  have hnew := World.alloc_heap_new w (.cells #[.int .i64 D.room, .int .i64 (bytesOf D.lines), .int .i64 D.lasts, .slice a D.lines.length cap] 129)
  obtain ⟨W0, hW0⟩ : ∃ W0, w.alloc (.cells #[.int .i64 D.room, .int .i64 (bytesOf D.lines), .int .i64 D.lasts, .slice a D.lines.length cap] 129) = W0 := ⟨_, rfl⟩
  have hsz : W0.heap.size = w.heap.size + 1 := by rw [← hW0]; simp
  rw [hW0] at HB hnew
  have C := hide (cloneStrs_calls B _ D.lines W0 (ownsRow_of_heap Hr.out fun k e => HB.block k (Hr.out.lt k e).2) (by omega))
  have HW := hide hW0
  have Hn := hide hnew
  clear hW0 hnew
  go_enter Tryz.func43, Tryz.ntmps43
  go_wp2_with fail
  rw [HW.out]
  refine C.out.mono ?_
  rintro e w1 ⟨v', rfl, hown, hB1⟩
  have hp1 := (hB1.block w.heap.size (by omega)).trans Hn.out
  have d3 := cellsAt hp1 3
  simp only [List.getElem?_toArray, List.getElem?_cons_zero, List.getElem?_cons_succ] at d3
  have k3 := frozenAt hp1 3
  have hs1 := hB1.size
  obtain ⟨a', cap', rfl⟩ := ownsRow_slice hown
  have Ho := hide hown
  have Hp1 := hide hp1
  have HB1 := hide hB1
  clear hown hp1 c0 c1 c2 c3 c3' C HW Hn hB1
  go_wp2
  go_ret
  refine ⟨rfl, (Value.slice a' D.lines.length cap').ownBlock, ⟨Hd.out.ok, Nat.le_refl _, .slice a' D.lines.length cap', rfl, ?_, ?_⟩, ?_⟩
  · simpa using setAt (j := 3) Hp1.out (.slice a' D.lines.length cap')
  · refine ownsRow_low (ownsRow_of_heap Ho.out fun k e => Below.heap_setCell _ _ _ _ fun e' => ?_) (show w.heap.size ≤ W0.heap.size by omega)
    have := (Ho.out.lt k e).1
    have e2 : k = w.heap.size := e'
    omega
  · exact (HB.trans (HB1.out.mono HB.size)).setCell (p := ⟨w.heap.size, 3, none⟩) (Nat.le_refl _) _

/-- A box with a row of its own, the lines l: what Lines goes over. -/
def IsSeq (w : World) (b : Nat) (l : List ByteArray) : Prop :=
  ∃ v g, w.heap[b]? = some (.cells #[v] 127 (0, 0)) ∧ v.ownBlock = g ∧ w.ownsRow 0 9 1 v l.length (l.map Value.string)

theorem IsSeq.below {w w' : World} {b : Nat} {l : List ByteArray} (h : IsSeq w b l) (hb : Below w.heap.size w w') : IsSeq w' b l := by
  obtain ⟨v, g, h1, h2, h3⟩ := h
  exact ⟨v, g, (hb.block b (ltAt h1)).trans h1, h2, ownsRow_of_heap h3 fun k e => hb.block k (h3.lt k e).2⟩

set_option maxHeartbeats 2000000 in
theorem diskLines_calls (B p : Nat) (g : Option Nat) (D : DiskD) (w : World) (hd : IsDisk w B p g D) :
    Calls Tryz.prog 96 #[.pointer (some ⟨p, 0, none⟩)] w fun e w' => ∃ b, e = .returned (.func (.func 159) #[] #[.pointer (some ⟨b, 0, none⟩)]) ∧ w.heap.size ≤ b ∧ IsSeq w' b D.lines ∧ Below w.heap.size w w' := by
  have hmf : ∀ (fn : Fn) (first cap : Array Value) (w : World), (Instr.makeFunc fn first cap).run Tryz.prog w = .ok (.func fn first cap) w := fun _ _ _ _ => rfl
  obtain ⟨a, cap, c0, c1, c2, c3, hf, hv, hr, hp⟩ := hd.open
  have hl := hd.len
  have C := hide (cloneStrs_calls B _ D.lines w hr (by omega))
  clear hd hr hp hv hf
  go_enter Tryz.func96, Tryz.ntmps96
  go_wp2_with (go_at_call 93; refine C.out.mono ?_; rintro e w1 ⟨v', rfl, hown, hB1⟩; obtain ⟨a', cap', rfl⟩ := ownsRow_slice hown)
  go_ret
  refine ⟨w1.heap.size, rfl, hB1.size, ⟨.slice a' D.lines.length cap', _, World.alloc_heap_new w1 _, rfl, ownsRow_low (World.ownsRow.alloc hown _) (Nat.zero_le _)⟩, hB1.alloc hB1.size _⟩

/-- What a round of a loop over Lines must keep: the box, and the row. -/
def KeepsSeq (b : Nat) (g : Option Nat) (W W' : World) : Prop := ∀ k, onDisk b g k → W'.heap[k]? = W.heap[k]?
theorem keepsSeq_t {b : Nat} {g : Option Nat} {A B C : World} (h : KeepsSeq b g A B) (k : KeepsSeq b g B C) : KeepsSeq b g A C := fun i hi => (k i hi).trans (h i hi)
theorem keepsSeq_b {b n : Nat} {g : Option Nat} (hg : ∀ k, onDisk b g k → k < n) (W : World) (l : Nat) (o o' : Obj) (hl : n ≤ l) (_ : W.heap[l]? = some o) (_ : o.isCells = false) (_ : o.isWalk = false) : KeepsSeq b g W (W.putObj l o') := fun k hk => by
  have := hg k hk
  unfold World.putObj
  simp only [Array.getElem?_setIfInBounds]
  rw [if_neg (by omega)]

/-- A line and its place, handed over. -/
def encLine (x : Nat × ByteArray) : Array Value := #[.int .i64 (x.1 : Int), .string x.2]
/-- The lines with their places. -/
def placed (l : List ByteArray) : List (Nat × ByteArray) := l.zipIdx.map fun x => (x.2, x.1)
theorem placed_length (l : List ByteArray) : (placed l).length = l.length := by simp [placed]
theorem placed_get (l : List ByteArray) (k : Nat) (h : k < (placed l).length) : (placed l)[k] = (k, l[k]'(by simpa [placed] using h)) := by simp [placed]

set_option maxRecDepth 100000 in
set_option maxHeartbeats 2000000 in
theorem lines_seq (n : Nat) (hn : 1 ≤ n) (b : Nat) (v : Value) (g : Option Nat) (l : List ByteArray) (hlen : l.length ≤ 1099511627776) (w : World) (hbox : w.heap[b]? = some (.cells #[v] 127 (0, 0))) (hv : v.ownBlock = g) (hrow : w.ownsRow 0 9 1 v l.length (l.map Value.string)) :
    SeqL n Tryz.prog 159 #[.pointer (some ⟨b, 0, none⟩)] encLine (KeepsSeq b g) (placed l) w := by
  intro lp J Jx W hW hY h0
  have hbox := (hW.block b (ltAt hbox)).trans hbox
  have hrow := ownsRow_of_heap hrow fun k e => hW.block k (hrow.lt k e).2
  obtain ⟨a, cap, rfl⟩ := ownsRow_slice hrow
  have hbx := cellsAt hbox 0
  simp only [List.getElem?_toArray, List.getElem?_cons_zero] at hbx
  refine callsIn_of_wp Tryz.func159 rfl trivial ?_ rfl
  simp only [Tryz.ntmps159, List.size_toArray, List.length_cons, List.length_nil, Nat.reduceAdd, Nat.reduceSub, Array.replicate_succ, Array.replicate_zero, List.push_toArray, List.append_toArray, List.nil_append, List.cons_append]
  have HY := hide hY
  have Hr := hide hrow
  have Hv := hide hv
  clear hY hrow hbox hv
  gi_wp2
  clear hbx
  gi_loopw [7] (fun i wr => ∃ k : Nat, k ≤ l.length ∧ i = .int .i64 (k : Int) ∧ J k wr ∧ KeepsSeq b g W wr) (fun i _ => l.length - (intOf i).toNat)
  case atStart => exact ⟨0, Nat.zero_le _, rfl, h0, fun _ _ => rfl⟩
  case round =>
    obtain ⟨k, hk, rfl, hJs, hnx⟩ := hrel
    by_cases hlt : k < l.length
    · obtain ⟨b', rfl, hc⟩ := strs_cell Hr.out k hlt
      have hcx : wr.cell? ⟨b', k, none⟩ = some (.string l[k]) := (World.cell?_of_block (a := ⟨b', k, none⟩) (hnx b' (.inr (Hv.out.symm.trans rfl)))).trans hc
      have hltI : (k : Int) < (l.length : Int) := by omega
      have hy := HY.out k (by rw [placed_length]; exact hlt) wr hJs
      rw [placed_get] at hy
      obtain ⟨s, hs⟩ : ∃ s, l[k] = s := ⟨_, rfl⟩
      rw [hs] at hcx hc hy
      obtain ⟨fn, tmps, assign, body, hy, hR⟩ := hy
      dsimp only [encLine] at hy
      clear hs hc
      have Hn := hide hnx
      clear hnx
      gi_wp2
      refine hR.mono ?_
      rintro e W3 (⟨rfl, hJ3, hk3⟩ | ⟨rfl, hJx3⟩)
      · gi_wp2
        exact ⟨⟨k + 1, by omega, by go_num, hJ3, keepsSeq_t Hn.out hk3⟩, by simp [intOf]; omega⟩
      · gi_wp2
        refine bodyPost_ret (results_none rfl _ _ _) rfl ?_
        exact ⟨⟨_, rfl⟩, .inr ⟨k, by rw [placed_length]; exact hlt, hJx3⟩⟩
    · obtain rfl : k = l.length := by omega
      gi_wp2
      go_end0
      exact ⟨⟨_, rfl⟩, .inl (by rw [placed_length]; exact hJs)⟩

end Go.Proofs.YtjbjjfndkpcciaaGreatDoor

/- slices.Delete of a row's tail. Own work; no statement. -/
set_option linter.unusedSimpArgs false
set_option linter.unusedVariables false
namespace Go.Proofs.YtjbjjfndkpcciaaGreatDoor
open Go.RowKit Go.Shelf Go.Sort

/-- Cells with others laid over them from a place on. -/
def setL (c : Array Value) : Nat → List Value → Array Value
  | _, [] => c
  | o, v :: r => setL (c.setIfInBounds o v) (o + 1) r

theorem setL_size : ∀ (vs : List Value) (o : Nat) (c : Array Value), (setL c o vs).size = c.size
  | [], _, _ => rfl
  | v :: r, o, c => by rw [setL, setL_size r]; simp
theorem setL_get : ∀ (vs : List Value) (o : Nat) (c : Array Value) (k : Nat), k < c.size → (setL c o vs)[k]? = if o ≤ k ∧ k < o + vs.length then vs[k - o]? else c[k]?
  | [], o, c, k, _ => by simp [setL]; intro; omega
  | v :: r, o, c, k, hk => by
    rw [setL, setL_get r (o + 1) _ k (by simpa using hk)]
    by_cases h : o = k
    · subst h
      rw [if_neg (by omega), if_pos (by simp)]
      simp [hk]
    · by_cases h2 : o ≤ k ∧ k < o + (v :: r).length
      · rw [if_pos h2, if_pos (by simp at h2; omega)]
        obtain ⟨j, rfl⟩ : ∃ j, k = o + 1 + j := ⟨k - (o + 1), by omega⟩
        rw [show o + 1 + j - (o + 1) = j by omega, show o + 1 + j - o = j + 1 by omega]
        simp
      · rw [if_neg h2, if_neg (by simp at h2 ⊢; omega)]
        simp [Array.getElem?_setIfInBounds, h]

theorem heap_setCells {b : Nat} {t : TypeId} {f : Nat × Nat} : ∀ (vs : List Value) (o : Nat) (w : World) (c : Array Value), w.heap[b]? = some (.cells c t f) → (w.setCells b o vs).heap[b]? = some (.cells (setL c o vs) t f)
  | [], _, _, _, h => h
  | v :: r, o, w, c, h => heap_setCells r (o + 1) _ _ (setAt (j := o) h v)
theorem touch_setCells {S : Nat → Prop} {b : Nat} (h : S b) : ∀ (vs : List Value) (o : Nat) (w : World), Touch S w (w.setCells b o vs)
  | [], _, w => Touch.refl _ w
  | v :: r, o, w => (touch_set w ⟨b, o, none⟩ v h).trans (touch_setCells h r (o + 1) _)

theorem deleteTail_calls (B n cap : Nat) (a : Option Addr) (l : List ByteArray) (w : World) (hr : w.ownsRow B 9 1 (.slice a l.length cap) l.length (l.map Value.string)) (hn : n ≤ l.length) :
    Calls Tryz.prog 160 #[.slice a l.length cap, .int .i64 (n : Int), .int .i64 (l.length : Int)] w fun e w' => e = .returned (.slice a n cap) ∧ w'.ownsRow B 9 1 (.slice a n cap) n ((l.take n).map Value.string) ∧ Touch (fun k => (Value.slice a l.length cap).ownBlock = some k) w w' := by
  rcases hr.2 with ⟨e, h0⟩ | ⟨g, cap', cur, e, hb, hg, hnc, hcm, hcs, ht⟩
  · have el : l = [] := List.eq_nil_of_length_eq_zero h0
    subst el
    have en : n = 0 := by simpa using hn
    subst en
    refine (Tryz.slices_Delete_string_empty a cap w).mono ?_
    rintro e w' ⟨rfl, rfl⟩
    exact ⟨rfl, hr, Touch.refl _ _⟩
  · simp only [Value.slice.injEq, true_and] at e
    obtain ⟨rfl, rfl⟩ := e
    refine (Tryz.slices_Delete_string_cells g 0 l.length cap n l.length (fun i => l.getD i ByteArray.empty) w hnc (by unfold maxLen at hcm; exact hcm) hn (Nat.le_refl _) ?_ ?_).mono ?_
    · intro i hi
      rw [Nat.zero_add, hr.cellAt i (by omega)]
      simp [hi]
    · intro j _
      exact frozenAt hg _
    · rintro e w' ⟨rfl, q, rfl⟩
      refine ⟨by rw [show l.length - (l.length - n) = n by omega], ⟨by simp; omega, .inr ⟨g, cap, _, rfl, hb, heap_setCells _ 0 (w.drewN q) cur hg, by omega, hcm, by rw [setL_size]; exact hcs, ?_⟩⟩, (touch_new (drewsB w q)).trans (touch_setCells (S := fun k => (Value.slice (some ⟨g, 0, none⟩) l.length cap).ownBlock = some k) rfl _ _ _)⟩
      apply List.ext_getElem?
      intro k
      by_cases hk : k < n
      · have hkc : k < cur.size := by omega
        rw [List.getElem?_take_of_lt (by omega), Array.getElem?_toList, setL_get _ _ _ _ hkc, if_pos (by simp [Lib.strsOf]; omega)]
        have hkl : k < l.length := by omega
        rw [Nat.sub_zero, List.map_append, List.map_append, List.append_assoc, List.getElem?_append_left (by simp [Lib.strsOf]; omega)]
        simp [Lib.strsOf, hk, hkl, encStr]
      · rw [List.getElem?_eq_none (by simp; omega), List.getElem?_eq_none (by simp; omega)]

end Go.Proofs.YtjbjjfndkpcciaaGreatDoor

/- strings.SplitSeq at a blank: the pieces of a text, as long as they are asked. Own work; no statement. -/
set_option linter.unusedSimpArgs false
set_option linter.unusedVariables false
namespace Go.Proofs.YtjbjjfndkpcciaaGreatDoor
open Go.RowKit Go.Shelf

attribute [local go_sem] Oper.semAt_some

/-- The pieces of a text between blanks. -/
def splitL : List UInt8 → List (List UInt8)
  | [] => [[]]
  | c :: r => if c = 32 then [] :: splitL r else
    match splitL r with
    | [] => [[c]]
    | x :: xs => (c :: x) :: xs

theorem splitL_ne (l : List UInt8) : splitL l ≠ [] := by
  cases l with
  | nil => simp [splitL]
  | cons c r =>
    simp only [splitL]
    split
    · simp
    · split <;> simp

theorem splitL_none : ∀ (l : List UInt8), Lib.indexByte l 32 = -1 → splitL l = [l]
  | [], _ => rfl
  | c :: r, h => by
    simp only [Lib.indexByte] at h
    by_cases hc : c = 32
    · subst hc; simp at h
    · have hc' : (c == 32) = false := by simp [hc]
      rw [hc'] at h
      simp only [Bool.false_eq_true, if_false] at h
      have hr : Lib.indexByte r 32 = -1 := by
        by_cases e : Lib.indexByte r 32 = -1
        · exact e
        · have e' : (Lib.indexByte r 32 == -1) = false := by simp [e]
          rw [e'] at h
          simp only [Bool.false_eq_true, if_false] at h
          have := Lib.indexByte_ge r 32
          omega
      simp only [splitL]
      rw [if_neg hc, splitL_none r hr]

theorem splitL_some : ∀ (l : List UInt8) (i : Nat), Lib.indexByte l 32 = i → i < l.length ∧ splitL l = l.take i :: splitL (l.drop (i + 1))
  | [], i, h => by simp [Lib.indexByte] at h
  | c :: r, i, h => by
    simp only [Lib.indexByte] at h
    by_cases hc : c = 32
    · subst hc
      simp at h
      have h0 : i = 0 := by omega
      subst h0
      simp [splitL]
    · have hc' : (c == 32) = false := by simp [hc]
      rw [hc'] at h
      simp only [Bool.false_eq_true, if_false] at h
      by_cases e : Lib.indexByte r 32 = -1
      · rw [e] at h; simp at h
      · have e' : (Lib.indexByte r 32 == -1) = false := by simp [e]
        rw [e'] at h
        simp only [Bool.false_eq_true, if_false] at h
        have := Lib.indexByte_ge r 32
        cases i with
        | zero => omega
        | succ i =>
          obtain ⟨h1, h2⟩ := splitL_some r i (by omega)
          refine ⟨by simp; omega, ?_⟩
          simp only [splitL]
          rw [if_neg hc, h2]
          simp

set_option maxHeartbeats 400000 in
theorem splitSeq_calls (s : ByteArray) (w : World) :
    Calls Tryz.prog 221 #[.string s, .string ⟨#[32]⟩] w fun e w' => e = .returned (.func (.func 241) #[] #[.pointer (some ⟨w.heap.size + 1, 0, none⟩), .pointer (some ⟨w.heap.size, 0, none⟩), .pointer (some ⟨w.heap.size + 2, 0, none⟩)]) ∧
      w' = ((w.alloc (.cells #[.string s] 9)).alloc (.cells #[.string ⟨#[32]⟩] 9)).alloc (.cells #[.int .i64 0] 3) := by
  have hmf : ∀ (fn : Fn) (first cap : Array Value) (w : World), (Instr.makeFunc fn first cap).run Tryz.prog w = .ok (.func fn first cap) w := fun _ _ _ _ => rfl
  go_enter Tryz.func221, Tryz.ntmps221
  go_wp2
  go_ret
  exact ⟨rfl, rfl⟩

/-- A text that is not too long for any count. -/
abbrev Word : Type := { x : List UInt8 // x.length ≤ 1099511627776 }

/-- The three boxes that the sequence goes by. -/
def IsSplit (W : World) (b : Nat) (s : List UInt8) : Prop := Boxed W b 9 (.string ⟨s.toArray⟩) ∧ Boxed W (b + 1) 9 (.string ⟨#[32]⟩) ∧ Boxed W (b + 2) 3 (.int .i64 0)
def KeepsThree (b : Nat) (W W' : World) : Prop := W'.heap[b]? = W.heap[b]? ∧ W'.heap[b + 1]? = W.heap[b + 1]? ∧ W'.heap[b + 2]? = W.heap[b + 2]?
theorem keepsThree_t {b : Nat} {A B C : World} (h : KeepsThree b A B) (k : KeepsThree b B C) : KeepsThree b A C := ⟨k.1.trans h.1, k.2.1.trans h.2.1, k.2.2.trans h.2.2⟩
theorem keepsThree_b {b n : Nat} (hg : b + 2 < n) (W : World) (l : Nat) (o o' : Obj) (hl : n ≤ l) (h1 : W.heap[l]? = some o) (h2 : o.isCells = false) (h3 : o.isWalk = false) : KeepsThree b W (W.putObj l o') :=
  ⟨keepsRow_b (by omega) W l o o' hl h1 h2 h3, keepsRow_b (by omega) W l o o' hl h1 h2 h3, keepsRow_b hg W l o o' hl h1 h2 h3⟩
theorem IsSplit.keep {b : Nat} {W W' : World} {s : List UInt8} (h : IsSplit W b s) (k : KeepsThree b W W') : IsSplit W' b s := ⟨k.1.trans h.1, k.2.1.trans h.2.1, k.2.2.trans h.2.2⟩
theorem IsSplit.set {b : Nat} {W : World} {s : List UInt8} (h : IsSplit W b s) (s' : List UInt8) : IsSplit (W.setCell ⟨b, 0, none⟩ (.string ⟨s'.toArray⟩)) b s' :=
  ⟨h.1.set _, boxed_of_heap h.2.1 (Below.heap_setCell _ _ _ _ (show b + 1 ≠ b by omega)), boxed_of_heap h.2.2 (Below.heap_setCell _ _ _ _ (show b + 2 ≠ b by omega))⟩

def strLen (W : World) (b : Nat) : Nat := match W.cell? ⟨b, 0, none⟩ with | some (.string s) => s.size | _ => 0
theorem strLen_of {W : World} {b : Nat} {s : List UInt8} (h : IsSplit W b s) : strLen W b = s.length := by
  unfold strLen
  rw [h.1.cell]
  simp [ByteArray.size]

theorem extract_list (l : List UInt8) (i j : Nat) : (⟨l.toArray⟩ : ByteArray).extract i j = ⟨((l.drop i).take (j - i)).toArray⟩ := by
  apply ByteArray.ext
  simp [ByteArray.data_extract]
theorem extract_head (l : List UInt8) (i : Nat) : (⟨l.toArray⟩ : ByteArray).extract 0 i = ⟨(l.take i).toArray⟩ := by rw [extract_list]; simp
theorem extract_tail (l : List UInt8) (i j : Nat) (h : j = l.length) : (⟨l.toArray⟩ : ByteArray).extract i j = ⟨(l.drop i).toArray⟩ := by rw [extract_list, h, List.take_of_length_le (by simp)]

set_option maxRecDepth 100000 in
set_option maxHeartbeats 2000000 in
theorem split1_in (n : Nat) (hn : 1 ≤ n) (lp b : Nat) (s : List UInt8) (hlen : s.length ≤ 1099511627776) (J Jx : List Word → World → Prop)
    (hJ : ∀ pre A v, J pre A → J pre (A.setCell ⟨b, 0, none⟩ v))
    (hY : ∀ pre x W, J pre W → pre.length < (splitL s).length → YieldAt Fence.wide (n - 1) Tryz.prog lp #[.string ⟨x.1.toArray⟩] W fun e W' =>
      (e = .returned (.bool true) ∧ J (pre ++ [x]) W' ∧ KeepsThree b W W') ∨ (e = .returned (.bool false) ∧ Jx (pre ++ [x]) W'))
    (W : World) (hA : IsSplit W b s) (h0 : J [] W) :
    CallsIn Fence.wide n Tryz.prog 241 #[.func (.yield lp) #[] #[], .pointer (some ⟨b + 1, 0, none⟩), .pointer (some ⟨b, 0, none⟩), .pointer (some ⟨b + 2, 0, none⟩)] W fun e W' => (∃ v, e = .returned v) ∧
      ((∃ ys, ys.map (·.1) = splitL s ∧ J ys W') ∨ (∃ pre, pre.map (·.1) <+: splitL s ∧ Jx pre W')) := by
  refine callsIn_of_wp Tryz.func241 rfl trivial ?_ rfl
  simp only [Tryz.ntmps241, List.size_toArray, List.length_cons, List.length_nil, Nat.reduceAdd, Nat.reduceSub, Array.replicate_succ, Array.replicate_zero, List.push_toArray, List.append_toArray, List.nil_append, List.cons_append]
  have HY := hide hY
  have HJ := hide hJ
  clear hY hJ
  have q1 := hA.2.1.cell
  gi_wp2
  gi_loopw [7] (fun _ wr => ∃ (pre : List Word) (rest : List UInt8), splitL s = pre.map (·.1) ++ splitL rest ∧ rest.length ≤ 1099511627776 ∧ IsSplit wr b rest ∧ J pre wr) (fun _ wr => strLen wr b)
  case atStart => exact ⟨[], s, rfl, hlen, hA, h0⟩
  case round =>
    obtain ⟨pre, rest, hs, hl, hI, hJs⟩ := hrel
    replace hs := hide hs
    clear q1
    have c1 := hI.1.cell
    have c2 := hI.2.1.cell
    have c3 := hI.2.2.cell
    have f1 := hI.1.frozen
    by_cases hi : Lib.indexByte rest 32 = -1
    · have hsp := hide (splitL_none rest hi)
      have HI := hide hi
      clear hi
      obtain ⟨fn, tmps, assign, body, hy, hR⟩ := HY.out pre ⟨rest, hl⟩ wr hJs (by rw [hs.out, hsp.out]; simp)
      dsimp only at hy
      gi_wp2_with (refine ⟨trivial, ?_⟩; gi_at_call 243; refine ((callsIn_wide (n := _)).2 (Tryz.strings_Index_one ⟨rest.toArray⟩ 32 wr)).mono ?_; rintro e w' ⟨rfl, rfl⟩; rw [show (⟨rest.toArray⟩ : ByteArray).data.toList = rest from rfl, HI.out])
      refine hR.mono ?_
      rintro e W3 (⟨rfl, hJ3, hk3⟩ | ⟨rfl, hJx3⟩)
      · gi_wp2
        go_end0
        exact ⟨⟨_, rfl⟩, .inl ⟨_, by rw [hs.out, hsp.out]; simp, hJ3⟩⟩
      · gi_wp2
        go_end0
        exact ⟨⟨_, rfl⟩, .inr ⟨_, by rw [hs.out, hsp.out]; simp, hJx3⟩⟩
    · have hge := Lib.indexByte_ge rest 32
      obtain ⟨i, hi'⟩ := Int.eq_ofNat_of_zero_le (show 0 ≤ Lib.indexByte rest 32 by omega)
      obtain ⟨hil, hsp⟩ := splitL_some rest i hi'
      replace hsp := hide hsp
      have HI := hide hi'
      clear hi hi' hge
      have hilI : (i : Int) < (rest.length : Int) := by omega
      have hx1 := extract_head rest i
      obtain ⟨fn, tmps, assign, body, hy, hR⟩ := HY.out pre ⟨rest.take i, by rw [List.length_take]; omega⟩ wr hJs (by rw [hs.out, hsp.out]; simp)
      dsimp only at hy
      gi_wp2_with (refine ⟨trivial, ?_⟩; gi_at_call 243; refine ((callsIn_wide (n := _)).2 (Tryz.strings_Index_one ⟨rest.toArray⟩ 32 wr)).mono ?_; rintro e w' ⟨rfl, rfl⟩; rw [show (⟨rest.toArray⟩ : ByteArray).data.toList = rest from rfl, HI.out])
      gi_wp2
      refine hR.mono ?_
      rintro e W3 (⟨rfl, hJ3, hk3⟩ | ⟨rfl, hJx3⟩)
      · have hI3 := hI.keep hk3
        have d1 := hI3.1.cell
        have d2 := hI3.2.1.cell
        have d4 := hI3.1.frozen
        gi_wp2
        rw [extract_tail rest (i + 1) rest.length rfl]
        have hI4 := hI3.set (rest.drop (i + 1))
        exact ⟨⟨_, _, by rw [hs.out, hsp.out, List.map_append, List.append_assoc]; rfl, by simp; omega, hI4, HJ.out _ _ _ hJ3⟩, by rw [strLen_of hI4, strLen_of hI]; simp; omega⟩
      · gi_wp2
        refine bodyPost_ret (results_none rfl _ _ _) rfl ?_
        exact ⟨⟨_, rfl⟩, .inr ⟨_, by rw [hs.out, hsp.out]; exact ⟨splitL (rest.drop (i + 1)), by simp⟩, hJx3⟩⟩

/-- The iterator's own steps: it writes its own variable, box b. -/
def Turns (b : Nat) (A B : World) : Prop := ∃ v, B = A.setCell ⟨b, 0, none⟩ v

theorem split_stops (n : Nat) (hn : 1 ≤ n) (b : Nat) (s : List UInt8) (hlen : s.length ≤ 1099511627776) (w : World) (hA : IsSplit w b s) :
    SeqE n Tryz.prog 241 #[.pointer (some ⟨b + 1, 0, none⟩), .pointer (some ⟨b, 0, none⟩), .pointer (some ⟨b + 2, 0, none⟩)] (fun x : Word => #[Value.string ⟨x.1.toArray⟩]) (KeepsThree b) (Turns b) (fun ys => ys.map (·.1) = splitL s)
      (fun pre => pre.map (·.1) <+: splitL s) (splitL s).length w := fun lp J Jx W hW hJ _ hY h0 =>
  split1_in n hn lp b s hlen J Jx (fun pre A v h => hJ pre A _ h ⟨v, rfl⟩) hY W
    ⟨(hW.block b hA.1.lt).trans hA.1, (hW.block (b + 1) hA.2.1.lt).trans hA.2.1, (hW.block (b + 2) hA.2.2.lt).trans hA.2.2⟩ h0

end Go.Proofs.YtjbjjfndkpcciaaGreatDoor

/- num's Decimal and Parse: a number in words. Own work; no statement. -/
set_option linter.unusedSimpArgs false
set_option linter.unusedVariables false
namespace Go.Proofs.YtjbjjfndkpcciaaGreatDoor
open Go.RowKit Go.Shelf

/-- Is it a digit? -/
def digB (c : UInt8) : Bool := decide (48 ≤ c.toNat ∧ c.toNat ≤ 57)
/-- Digits' number, but no more than MaxSeq + 1. -/
def decTo : List UInt8 → Int → Int
  | [], n => n
  | c :: r, n => decTo r (min (n * 10 + ((c.toNat : Int) - 48)) 1048577)
/-- Digits' number, but no more than m + 1. -/
def decToM (m : Int) : List UInt8 → Int → Int
  | [], n => n
  | c :: r, n => decToM m r (min (n * 10 + ((c.toNat : Int) - 48)) (m + 1))
theorem decToM_eq : ∀ (l : List UInt8) (n : Int), decToM 1048576 l n = decTo l n
  | [], _ => rfl
  | _ :: l, _ => decToM_eq l _
theorem decToM_snoc (m : Int) : ∀ (l : List UInt8) (c : UInt8) (n : Int), decToM m (l ++ [c]) n = min (decToM m l n * 10 + ((c.toNat : Int) - 48)) (m + 1)
  | [], _, _ => rfl
  | _ :: l, c, _ => decToM_snoc m l c _
/-- Digits, at least one, without leading noughts. -/
def decOk (l : List UInt8) : Bool := !l.isEmpty && !(decide (1 < l.length) && l.head? == some 48) && l.all digB

theorem decTo_snoc : ∀ (l : List UInt8) (c : UInt8) (n : Int), decTo (l ++ [c]) n = min (decTo l n * 10 + ((c.toNat : Int) - 48)) 1048577
  | [], _, _ => rfl
  | _ :: l, c, _ => decTo_snoc l c _

theorem decTo_range : ∀ (l : List UInt8) (n : Int), (∀ c ∈ l, digB c = true) → 0 ≤ n → n ≤ 1048577 → 0 ≤ decTo l n ∧ decTo l n ≤ 1048577
  | [], n, _, h0, h1 => ⟨h0, h1⟩
  | c :: l, n, h, h0, h1 => by
    have hc := h c (by simp)
    simp only [digB, decide_eq_true_eq] at hc
    exact decTo_range l _ (fun d hd => h d (by simp [hd])) (by omega) (by omega)

theorem decToM_range {m : Int} (hm : 0 ≤ m) : ∀ (l : List UInt8) (n : Int), (∀ c ∈ l, digB c = true) → 0 ≤ n → n ≤ m + 1 → 0 ≤ decToM m l n ∧ decToM m l n ≤ m + 1
  | [], n, _, h0, h1 => ⟨h0, h1⟩
  | c :: l, n, h, h0, h1 => by
    have hc := h c (by simp)
    simp only [digB, decide_eq_true_eq] at hc
    exact decToM_range hm l _ (fun d hd => h d (by simp [hd])) (by omega) (by omega)

theorem take_snoc_byte (s : ByteArray) (k : Nat) (h : k < s.size) : s.data.toList.take (k + 1) = s.data.toList.take k ++ [s[k]] := by
  rw [List.take_succ_eq_append_getElem (by simpa using h)]; rfl

theorem decOk_long (s : ByteArray) (h1 : 1 < s.size) (h0 : s[0] = 48) : decOk s.data.toList = false := by
  have : s.data.toList.head? = some 48 := by
    rw [List.head?_eq_getElem?, List.getElem?_eq_getElem (by simpa using (show 0 < s.size by omega))]
    exact congrArg some h0
  have hl : 1 < s.data.toList.length := by simpa using h1
  simp only [decOk, this, hl]
  simp

theorem decOk_not (s : ByteArray) (k : Nat) (h : k < s.size) (hd : digB s[k] = false) : decOk s.data.toList = false := by
  have hm : s[k] ∈ s.data.toList := by
    have : s[k] = s.data.toList[k]'(by simpa using h) := rfl
    rw [this]
    exact List.getElem_mem _
  have : s.data.toList.all digB = false := by
    rw [List.all_eq_false]
    exact ⟨_, hm, by rw [hd]; simp⟩
  simp [decOk, this]

theorem decOk_yes (s : ByteArray) (h0 : 0 < s.size) (h1 : ¬ (1 < s.size ∧ s[0] = 48)) (hall : ∀ c ∈ s.data.toList, digB c = true) : decOk s.data.toList = true := by
  have hne : s.data.toList.isEmpty = false := by
    cases h : s.data.toList with
    | nil => have := Lib.size_eq s; rw [h] at this; simp at this; exact absurd h0 (by rw [this]; exact Nat.lt_irrefl 0)
    | cons _ _ => rfl
  have hh : (decide (1 < s.data.toList.length) && s.data.toList.head? == some 48) = false := by
    rw [Bool.and_eq_false_iff]
    by_cases hl : 1 < s.size
    · right
      rw [List.head?_eq_getElem?, List.getElem?_eq_getElem (by simpa using h0)]
      have : ¬ s[0] = 48 := fun e => h1 ⟨hl, e⟩
      rw [beq_eq_false_iff_ne]
      intro e
      exact this (Option.some.inj e)
    · left
      simp
      have : s.size = s.data.size := rfl
      omega
  have ha : s.data.toList.all digB = true := List.all_eq_true.2 hall
  simp only [decOk, hne, hh, ha]
  rfl

set_option maxHeartbeats 1000000 in
theorem decimalM_calls (m : Int) (s : ByteArray) (w : World) (hm : 0 ≤ m) (hm2 : m ≤ 2147483647) (hs : s.size ≤ 1099511627776) :
    Calls Tryz.prog 203 #[.string s, .int .i64 m] w fun e w' => e = .returned (.tuple #[.int .i64 (if decOk s.data.toList then decToM m s.data.toList 0 else 0), .bool (decOk s.data.toList)]) ∧ w' = w := by
  obtain ⟨n, b, hn, hb⟩ : ∃ n b, (if decOk s.data.toList then decToM m s.data.toList 0 else 0) = n ∧ decOk s.data.toList = b := ⟨_, _, rfl, rfl⟩
  rw [hn, hb]
  have Hn := hide hn
  have Hb := hide hb
  clear hn hb
  by_cases h0 : s.size = 0
  · have e : s = ⟨#[]⟩ := ByteArray.ext (Array.eq_empty_of_size_eq_zero h0)
    subst e
    have e1 : n = 0 := Hn.out.symm
    have e2 : b = false := Hb.out.symm
    subst e1 e2
    go_enter Tryz.func203, Tryz.ntmps203
    go_wp2
    go_ret2
    exact ⟨rfl, rfl⟩
  · have hne : s.toList.isEmpty = false := by
      rw [Lib.toList_data]
      cases h : s.data.toList with
      | nil => have := Lib.size_eq s; rw [h] at this; exact absurd this (by simpa using h0)
      | cons _ _ => rfl
    have h0' : 0 < s.size := by omega
    have h0I : (0 : Int) < (s.size : Int) := by omega
    by_cases h1 : 1 < s.size ∧ s[0] = 48
    · obtain ⟨h1, h2⟩ := h1
      have e := decOk_long s h1 h2
      have e1 : n = 0 := by rw [← Hn.out, e]; rfl
      have e2 : b = false := by rw [← Hb.out, e]
      subst e1 e2
      have h1I : (1 : Int) < (s.size : Int) := by omega
      have h3 : (((s[0].toNat : Nat) : Int) == 48) = true := by rw [h2]; rfl
      clear e h2 h0
      go_enter Tryz.func203, Tryz.ntmps203
      go_wp2
      go_ret2
      exact ⟨rfl, rfl⟩
    · have hcase : ((1 : Int) < (s.size : Int) → (((s[0].toNat : Nat) : Int) == 48) = false) := by
        intro hl
        rw [beq_eq_false_iff_ne]
        intro e
        exact h1 ⟨by omega, UInt8.toNat_inj.1 (by simp; omega)⟩
      have H1 := hide h1
      clear h1 h0
      by_cases hl : (1 : Int) < (s.size : Int)
      case' pos => have hc48 := hcase hl
      all_goals
        clear hcase
        go_enter Tryz.func203, Tryz.ntmps203
        go_wp2
        go_loop [6, 23] (fun x i => ∃ k : Nat, k ≤ s.size ∧ i = .int .i64 (k : Int) ∧ x = .int .i64 (decToM m (s.data.toList.take k) 0) ∧ ∀ c ∈ s.data.toList.take k, digB c = true) (fun _ i => s.size - (intOf i).toNat)
        case atStart => exact ⟨0, Nat.zero_le _, rfl, rfl, by simp⟩
        case round =>
          obtain ⟨k, hk, rfl, rfl, hall⟩ := hrel
          have hr := decToM_range hm _ 0 hall (by omega) (by omega)
          replace hall := hide hall
          by_cases hkl : k < s.size
          · have hlt : (k : Int) < (s.size : Int) := by omega
            have hsn := decToM_snoc m (s.data.toList.take k) s[k] 0
            rw [← take_snoc_byte s k hkl] at hsn
            have hts := hide (take_snoc_byte s k hkl)
            replace hsn := hide hsn
            generalize decToM m (s.data.toList.take k) 0 = x at hr hsn
            obtain ⟨hr0, hr1⟩ := hr
            by_cases hd : 48 ≤ s[k].toNat ∧ s[k].toNat ≤ 57
            · have hd1 : ¬ ((s[k].toNat : Nat) : Int) < 48 := by omega
              have hd2 : ¬ 57 < ((s[k].toNat : Nat) : Int) := by omega
              have hdg := hide (show digB s[k] = true by unfold digB; simpa using hd)
              obtain ⟨hda, hdb⟩ := hd
              go_wp2
              refine ⟨⟨k + 1, by omega, by go_num, by rw [hsn.out], fun c hc => ?_⟩, by simp [intOf]; omega⟩
              rw [hts.out] at hc
              rcases List.mem_append.1 hc with hc | hc
              · exact hall.out c hc
              · rw [List.mem_singleton.1 hc]; exact hdg.out
            · have hno := decOk_not s k hkl (by unfold digB; simpa using hd)
              have e1 : n = 0 := by rw [← Hn.out, hno]; rfl
              have e2 : b = false := by rw [← Hb.out, hno]
              subst e1 e2
              clear hno
              by_cases hd1 : ((s[k].toNat : Nat) : Int) < 48
              · go_wp2
                go_ret2
                exact ⟨rfl, rfl⟩
              · have hd2 : 57 < ((s[k].toNat : Nat) : Int) := by omega
                clear hd
                go_wp2
                go_ret2
                exact ⟨rfl, rfl⟩
          · have e : s.data.toList.take k = s.data.toList := List.take_of_length_le (by rw [← Lib.size_eq]; omega)
            have hy : decOk s.data.toList = true := decOk_yes s h0' H1.out (by have := hall.out; rwa [e] at this)
            have e1 : n = decToM m (s.data.toList.take k) 0 := by rw [← Hn.out, hy, e]; rfl
            have e2 : b = true := by rw [← Hb.out, hy]
            subst e1 e2
            clear hy e
            go_wp2
            go_ret2
            exact ⟨rfl, rfl⟩

theorem decimal_calls (s : ByteArray) (w : World) (hs : s.size ≤ 1099511627776) :
    Calls Tryz.prog 203 #[.string s, .int .i64 1048576] w fun e w' => e = .returned (.tuple #[.int .i64 (if decOk s.data.toList then decTo s.data.toList 0 else 0), .bool (decOk s.data.toList)]) ∧ w' = w := by
  have h := decimalM_calls 1048576 s w (by omega) (by omega) hs
  rw [decToM_eq] at h
  exact h

/-- A number up to 2^31 - 1 in words: the number, and whether it is one. -/
def numL (l : List UInt8) : Int × Bool := if decOk l = true ∧ decToM 2147483647 l 0 ≤ 2147483647 then (decToM 2147483647 l 0, true) else (0, false)

set_option maxHeartbeats 1000000 in
theorem numParse_calls (s : ByteArray) (w : World) (hs : s.size ≤ 1099511627776) :
    Calls Tryz.prog 176 #[.string s] w fun e w' => e = .returned (.tuple #[.int .i64 (numL s.data.toList).1, .bool (numL s.data.toList).2]) ∧ w' = w := by
  obtain ⟨p, hp⟩ : ∃ p, numL s.data.toList = p := ⟨_, rfl⟩
  rw [hp]
  unfold numL at hp
  have hd := decimalM_calls 2147483647 s w (by omega) (by omega) hs
  generalize decToM 2147483647 s.data.toList 0 = n at hp hd
  cases hk : decOk s.data.toList with
  | false =>
    rw [hk] at hp hd
    rw [if_neg (by simp)] at hp
    rw [if_neg (by simp)] at hd
    subst hp
    have Hd := hide hd
    clear hd hk
    go_enter Tryz.func176, Tryz.ntmps176
    go_wp2_with (go_at_call 203; refine Hd.out.mono ?_; rintro e w' ⟨rfl, rfl⟩)
    go_ret2
    exact ⟨rfl, rfl⟩
  | true =>
    rw [hk] at hp hd
    rw [if_pos rfl] at hd
    have Hd := hide hd
    clear hd hk
    by_cases hn : n ≤ 2147483647
    · rw [if_pos ⟨rfl, hn⟩] at hp
      subst hp
      have hn' : ¬ 2147483647 < n := by omega
      clear hn
      go_enter Tryz.func176, Tryz.ntmps176
      go_wp2_with (go_at_call 203; refine Hd.out.mono ?_; rintro e w' ⟨rfl, rfl⟩)
      go_ret2
      exact ⟨rfl, rfl⟩
    · rw [if_neg (by omega)] at hp
      subst hp
      have hn' : 2147483647 < n := by omega
      clear hn
      go_enter Tryz.func176, Tryz.ntmps176
      go_wp2_with (go_at_call 203; refine Hd.out.mono ?_; rintro e w' ⟨rfl, rfl⟩)
      go_ret2
      exact ⟨rfl, rfl⟩

end Go.Proofs.YtjbjjfndkpcciaaGreatDoor

/- vec's parseNumbers and Parse: a text as a vector. Own work; no statement. -/
set_option linter.unusedSimpArgs false
set_option linter.unusedVariables false
namespace Go.Proofs.YtjbjjfndkpcciaaGreatDoor
open Go.RowKit Go.Shelf

attribute [local go_sem] Oper.semAt_some

/-- 'x = append(x, ..)' by way of x's box B, the rows all beyond the boxes: every other block below them is as it was. -/
theorem app_low {W w1 : World} {N n₁ B : Nat} {t e : TypeId} {v v' : Value} {k m : Nat} {xs ys : List Value} {tmp : Obj} (hv : Boxed W B t v) (hrow : W.ownsRow n₁ e 1 v k xs) (hn : n₁ ≤ W.heap.size) (hB : B < n₁) (hN : N ≤ B)
    (hown : w1.ownsRow n₁ e 1 v' m ys) (hgrow : (W.alloc tmp).grownBy w1 v.ownBlock) :
    Boxed w1 B t v ∧ Boxed (w1.setCell ⟨B, 0, none⟩ v') B t v' ∧ (w1.setCell ⟨B, 0, none⟩ v').ownsRow n₁ e 1 v' m ys ∧ KeepsOthers W (w1.setCell ⟨B, 0, none⟩ v') ∧ Below N W (w1.setCell ⟨B, 0, none⟩ v') ∧
      Hid (∀ b, b < n₁ → b ≠ B → (w1.setCell ⟨B, 0, none⟩ v').heap[b]? = W.heap[b]?) := by
  have hne : ∀ b, b < n₁ → some b ≠ v.ownBlock := fun b hb e' => by have := (hrow.lt b e'.symm).1; omega
  have hv1 : Boxed w1 B t v := (hv.alloc tmp).kept hgrow (hne B hB)
  have hoth : ∀ b, b < n₁ → b ≠ B → (w1.setCell ⟨B, 0, none⟩ v').heap[b]? = W.heap[b]? := fun b hb hbB => app_other hgrow b (by omega) (hne b hb) hbB
  refine ⟨hv1, hv1.set v', ownsRow_of_heap hown (fun k hk => Below.heap_setCell _ _ _ _ (fun e' => by have := (hown.lt k hk).1; have e2 : k = B := e'; omega)), ?_, ?_, hoth⟩
  · refine ((KeepsOthers.alloc W tmp).trans (KeepsOthers.of_grownBy hgrow fun j o ej hj => ?_)).trans (KeepsOthers.setCell _ _ _)
    rcases (hrow.alloc tmp).2 with ⟨rfl, _⟩ | ⟨g, cap, cur, rfl, _, hgb, _⟩
    · simp [Value.ownBlock] at ej
    · obtain rfl : g = j := by simpa [Value.ownBlock] using ej
      rw [hgb] at hj; cases hj; rfl
  · exact (((Below.refl N W).alloc (by omega) tmp).grown hgrow (by simp; omega) (fun j ej => by have := (hrow.lt j ej).1; omega)).setCell (p := ⟨B, 0, none⟩) hN v'

theorem boxed_new' {W : World} {b : Nat} {t : TypeId} {v : Value} (h : b = W.heap.size) : Boxed (W.alloc (.cells #[v] t)) b t v := h ▸ Boxed.new W t v

theorem one_set {W : World} {a : Nat} {u : Value} (k : Nat) (h : k ≠ a) : (W.setCell ⟨a, 0, none⟩ u).heap[k]? = W.heap[k]? := Below.heap_setCell _ _ _ _ h
theorem two_sets {W : World} {a b : Nat} {u v : Value} (k : Nat) (h1 : k ≠ a) (h2 : k ≠ b) : ((W.setCell ⟨a, 0, none⟩ u).setCell ⟨b, 0, none⟩ v).heap[k]? = W.heap[k]? := (one_set k h2).trans (one_set k h1)

/-- One word more: what is there, the last number, whether there was too much. -/
def stepW (st : List Int × Int × Bool) (x : List UInt8) : List Int × Int × Bool :=
  if 1048576 < decTo x 0 ∨ st.1.length = 8 then (st.1, decTo x 0, true) else (st.1 ++ [decTo x 0], decTo x 0, st.2.2)
def stOf (ws : List (List UInt8)) : List Int × Int × Bool := ws.foldl stepW ([], 0, false)
theorem stOf_snoc (ws : List (List UInt8)) (x : List UInt8) : stOf (ws ++ [x]) = stepW (stOf ws) x := by simp [stOf]
theorem stOf_len : ∀ (ws : List (List UInt8)), (stOf ws).1.length ≤ 8 := by
  have : ∀ (ws : List (List UInt8)) st, st.1.length ≤ 8 → (ws.foldl stepW st).1.length ≤ 8 := by
    intro ws
    induction ws with
    | nil => intro st h; exact h
    | cons x ws ih =>
      intro st h
      refine ih _ ?_
      unfold stepW
      split
      · exact h
      · simp; omega
  exact fun ws => this ws _ (by simp)
/-- Words as numbers, or why not: the vector and the error's number. -/
def parseN (ws : List (List UInt8)) : List Int × Int :=
  if ws.all decOk then (if (stOf ws).2.1 = 0 then ([], 2) else if (stOf ws).2.2 then ([], 4) else ((stOf ws).1, 0)) else ([], 2)

set_option maxRecDepth 100000 in
set_option maxHeartbeats 4000000 in
theorem parseNumbersO_calls (s : List UInt8) (w : World) (hs : s.length ≤ 1099511627776) :
    Calls Tryz.prog 206 #[.string ⟨s.toArray⟩] w fun e w' => ∃ v, e = .returned (.tuple #[v, .int .i64 (parseN (splitL s)).2]) ∧ w'.ownsRow w.heap.size 3 1 v (parseN (splitL s)).1.length ((parseN (splitL s)).1.map (Value.int .i64)) ∧ Below w.heap.size w w' := by
  obtain ⟨i0, hi, hz0, hz1, hz2⟩ := info_parts Tryz.info3
  refine (callsIn_wide (n := 5)).1 ?_
  refine callsIn_of_wp_marks Tryz.func206 rfl trivial ?_ rfl
  simp only [Tryz.ntmps206, List.size_toArray, List.length_cons, List.length_nil, Nat.reduceAdd, Nat.reduceSub, Array.replicate_succ, Array.replicate_zero, List.push_toArray, List.append_toArray, List.nil_append, List.cons_append]
  gi_wp2_with (refine ⟨trivial, ?_⟩; gi_at_call 221; refine ((callsIn_wide (n := _)).2 (splitSeq_calls _ _)).mono ?_; rintro e w' ⟨rfl, rfl⟩)
  simp only [Nat.add_assoc, Nat.reduceAdd]
  obtain ⟨W8, hW8⟩ : ∃ W8, (((((((w.alloc (.cells #[.slice none 0 0] 34)).alloc (.cells #[.int .i64 0] 27)).alloc (.cells #[.slice none 0 0] 34)).alloc (.cells #[.int .i64 0] 3)).alloc (.cells #[.bool false] 4)).alloc
    (.cells #[.string ⟨s.toArray⟩] 9)).alloc (.cells #[.string ⟨#[32]⟩] 9)).alloc (.cells #[.int .i64 0] 3) = W8 := ⟨_, rfl⟩
  have s8 : W8.heap.size = w.heap.size + 8 := by rw [← hW8]; simp
  have b0 : Boxed W8 w.heap.size 34 (.slice none 0 0) := by rw [← hW8]; exact ((((((((boxed_new' (by simp)).alloc _).alloc _).alloc _).alloc _).alloc _).alloc _).alloc _)
  have b1 : Boxed W8 (w.heap.size + 1) 27 (.int .i64 0) := by rw [← hW8]; exact (((((((boxed_new' (by simp)).alloc _).alloc _).alloc _).alloc _).alloc _).alloc _)
  have b2 : Boxed W8 (w.heap.size + 2) 34 (.slice none 0 0) := by rw [← hW8]; exact ((((((boxed_new' (by simp)).alloc _).alloc _).alloc _).alloc _).alloc _)
  have b3 : Boxed W8 (w.heap.size + 3) 3 (.int .i64 0) := by rw [← hW8]; exact (((((boxed_new' (by simp)).alloc _).alloc _).alloc _).alloc _)
  have b4 : Boxed W8 (w.heap.size + 4) 4 (.bool false) := by rw [← hW8]; exact ((((boxed_new' (by simp)).alloc _).alloc _).alloc _)
  have b5 : IsSplit W8 (w.heap.size + 5) s := by rw [← hW8]; exact ⟨(((boxed_new' (by simp)).alloc _).alloc _), ((boxed_new' (by simp)).alloc _), (boxed_new' (by simp))⟩
  have hB8 : Below w.heap.size w W8 := by
    rw [← hW8]
    exact ((((((((Below.refl _ w).alloc (Nat.le_refl _) _).alloc (by simp) _).alloc (by simp; omega) _).alloc (by simp; omega) _).alloc (by simp; omega) _).alloc (by simp; omega) _).alloc (by simp; omega) _).alloc (by simp; omega) _
  rw [hW8]
  clear hW8
  refine range_law (by decide) (gf := 241) (lb := #[.pointer (some ⟨w.heap.size + 6, 0, none⟩), .pointer (some ⟨w.heap.size + 5, 0, none⟩), .pointer (some ⟨w.heap.size + 7, 0, none⟩)]) rfl (enters_of Tryz.func241 (by kernel_rfl) rfl)
    (split_stops 4 (by decide) (w.heap.size + 5) s hs W8 b5) keepsThree_t (keepsThree_b (by omega)) ?hE (fun _ => rfl)
    (fun pre W => ((∃ v, Boxed W (w.heap.size + 2) 34 v ∧ W.ownsRow (w.heap.size + 8) 3 1 v (stOf (pre.map (·.1))).1.length ((stOf (pre.map (·.1))).1.map (Value.int .i64))) ∧ Boxed W (w.heap.size + 3) 3 (.int .i64 (stOf (pre.map (·.1))).2.1) ∧ Boxed W (w.heap.size + 4) 4 (.bool (stOf (pre.map (·.1))).2.2) ∧
      Boxed W w.heap.size 34 (.slice none 0 0) ∧ Boxed W (w.heap.size + 1) 27 (.int .i64 0) ∧ ((pre.map (·.1)).all decOk = true) ∧ w.heap.size + 8 ≤ W.heap.size) ∧ Below w.heap.size w W)
    (fun c pre W => (c = .ret ∧ Boxed W w.heap.size 34 (.slice none 0 0) ∧ Boxed W (w.heap.size + 1) 27 (.int .i64 2) ∧ ((pre.map (·.1)).all decOk = false)) ∧ Below w.heap.size w W)
    ?hI ?hIx ?hIE ?hIxE ?h0
    (fun x => { tmps := #[.string ⟨s.toArray⟩, undef, .pointer (some ⟨w.heap.size, 0, none⟩), .pointer (some ⟨w.heap.size + 1, 0, none⟩), .pointer (some ⟨w.heap.size + 2, 0, none⟩), .pointer (some ⟨w.heap.size + 3, 0, none⟩), .pointer (some ⟨w.heap.size + 4, 0, none⟩), .string ⟨x.1.toArray⟩, undef, undef, .string ⟨s.toArray⟩, .func (.func 241) #[] #[.pointer (some ⟨w.heap.size + 6, 0, none⟩), .pointer (some ⟨w.heap.size + 5, 0, none⟩), .pointer (some ⟨w.heap.size + 7, 0, none⟩)], .string ⟨x.1.toArray⟩, undef, undef, undef, undef, undef, undef, undef, undef, undef, undef, undef, undef, undef, undef, undef, undef, undef, undef, undef, undef, undef, undef, undef], defers := [] }) ?assign ?body ?done ?stop
  case hE =>
    rintro A B ⟨v, rfl⟩
    exact (KeepsOthers.setCell _ _ _).from _
  case hI =>
    refine OwnFrom.and (Own.from (fun pre X Y row hh hg hr => ?_) _) (ownFrom_below (Nat.le_refl _) (by omega))
    obtain ⟨⟨v, h1, h2⟩, h3, h4, h5, h6, h7, hsz⟩ := hh
    exact ⟨⟨v, boxed_own' hg hr h1, ownsRow_own' hg hr h2⟩, boxed_own' hg hr h3, boxed_own' hg hr h4, boxed_own' hg hr h5, boxed_own' hg hr h6, h7, Nat.le_trans hsz hg.size⟩
  case hIx =>
    intro c
    refine OwnFrom.and (Own.from (fun pre X Y row hh hg hr => ?_) _) (ownFrom_below (Nat.le_refl _) (by omega))
    exact ⟨hh.1, boxed_own' hg hr hh.2.1, boxed_own' hg hr hh.2.2.1, hh.2.2.2⟩
  case hIE =>
    rintro pre A B ⟨⟨⟨v, h1, h2⟩, h3, h4, h5, h6, h7, hsz⟩, hB⟩ ⟨u, rfl⟩
    have hk : ∀ k, k ≠ w.heap.size + 5 → (A.setCell ⟨w.heap.size + 5, 0, none⟩ u).heap[k]? = A.heap[k]? := fun k h => Below.heap_setCell _ _ _ _ h
    exact ⟨⟨⟨v, boxed_of_heap h1 (hk _ (by omega)), ownsRow_of_heap h2 (fun k hk' => hk k (by have := (h2.lt k hk').1; omega))⟩, boxed_of_heap h3 (hk _ (by omega)), boxed_of_heap h4 (hk _ (by omega)), boxed_of_heap h5 (hk _ (by omega)), boxed_of_heap h6 (hk _ (by omega)), h7, by simpa using hsz⟩, hB.setCell (p := ⟨w.heap.size + 5, 0, none⟩) (by simp) _⟩
  case hIxE =>
    rintro c pre A B ⟨⟨hc, h1, h2, h3⟩, hB⟩ ⟨u, rfl⟩
    have hk : ∀ k, k ≠ w.heap.size + 5 → (A.setCell ⟨w.heap.size + 5, 0, none⟩ u).heap[k]? = A.heap[k]? := fun k h => Below.heap_setCell _ _ _ _ h
    exact ⟨⟨hc, boxed_of_heap h1 (hk _ (by omega)), boxed_of_heap h2 (hk _ (by omega)), h3⟩, hB.setCell (p := ⟨w.heap.size + 5, 0, none⟩) (by simp) _⟩
  case h0 => exact ⟨⟨⟨_, b2, World.ownsRow_nil _ _ _ _⟩, b3, b4, b0, b1, rfl, by omega⟩, hB8⟩
  case assign =>
    intro l x W K hK
    gi_wp2
    exact hK
  case body =>
    rintro lp pre ⟨x, hx⟩ W ⟨⟨⟨v, h1, h2⟩, h3, h4, h5, h6, h7, hsz⟩, hB⟩ hlt
    clear b0 b1 b2 b3 b4 b5 hB8
    obtain ⟨pa, ca, rfl⟩ := ownsRow_slice h2
    have hsnoc := hide (stOf_snoc (pre.map (·.1)) x)
    have hl8 := stOf_len (pre.map (·.1))
    have hall : ∀ b, decOk x = b → ((pre ++ [(⟨x, hx⟩ : Word)]).map (·.1)).all decOk = b := by
      intro b hb
      rw [List.map_append, List.all_append, h7]
      simp [hb]
    have Hall := hide hall
    generalize hst : stOf (pre.map (·.1)) = st at *
    obtain ⟨l, last, long⟩ := st
    dsimp only at *
    have c2 := h1.cell
    have c3 := h3.cell
    have c4 := h4.cell
    have c0 := h5.cell
    have c1 := h6.cell
    have f2 := h1.frozen
    have f3 := h3.frozen
    have f4 := h4.frozen
    have f0 := h5.frozen
    have f1 := h6.frozen
    clear hall hst
    cases hd : decOk x with
    | false =>
      have HD := hide hd
      clear hd
      gi_wp2_with (refine ⟨trivial, ?_⟩; gi_at_call 203; refine (CallsIn.inRound lp ((callsIn_wide (n := _)).2 (decimal_calls ⟨x.toArray⟩ _ (by simpa [ByteArray.size] using hx)))).mono ?_; rintro e w' ⟨rfl, rfl⟩; rw [show (⟨x.toArray⟩ : ByteArray).data.toList = x from rfl, HD.out])
      exact ⟨((KeepsOthers.setCell _ _ _).trans (KeepsOthers.setCell _ _ _)).from _, ⟨rfl, boxed_of_heap (h5.set _) (one_set _ (by omega)), (boxed_of_heap h6 (one_set _ (by omega))).set _, Hall.out _ HD.out⟩, (hB.setCell (p := ⟨w.heap.size, 0, none⟩) (by simp) _).setCell (p := ⟨w.heap.size + 1, 0, none⟩) (by simp) _⟩
    | true =>
      have HD := hide hd
      clear hd
      unfold stepW at hsnoc
      dsimp only at hsnoc
      generalize hdn : decTo x 0 = n at *
      have HDN := hide hdn
      clear hdn
      by_cases hn : 1048576 < n
      · gi_wp2_with (refine ⟨trivial, ?_⟩; gi_at_call 203; refine (CallsIn.inRound lp ((callsIn_wide (n := _)).2 (decimal_calls ⟨x.toArray⟩ _ (by simpa [ByteArray.size] using hx)))).mono ?_; rintro e w' ⟨rfl, rfl⟩; rw [show (⟨x.toArray⟩ : ByteArray).data.toList = x from rfl, HD.out, if_pos rfl, HDN.out])
        refine ⟨((KeepsOthers.setCell _ _ _).trans (KeepsOthers.setCell _ _ _)).from _, ⟨two_sets _ (by omega) (by omega), two_sets _ (by omega) (by omega), two_sets _ (by omega) (by omega)⟩, ⟨⟨_, boxed_of_heap h1 (two_sets _ (by omega) (by omega)), ?_⟩, ?_, ?_, boxed_of_heap h5 (two_sets _ (by omega) (by omega)), boxed_of_heap h6 (two_sets _ (by omega) (by omega)), Hall.out _ HD.out, by simpa using hsz⟩, (hB.setCell (p := ⟨w.heap.size + 3, 0, none⟩) (by simp) _).setCell (p := ⟨w.heap.size + 4, 0, none⟩) (by simp) _⟩
        · rw [List.map_append]
          simp only [List.map_cons, List.map_nil]
          rw [hsnoc.out, if_pos (.inl hn)]
          exact ownsRow_of_heap h2 (fun k hk => two_sets k (by have := (h2.lt k hk).1; omega) (by have := (h2.lt k hk).1; omega))
        · rw [List.map_append]
          simp only [List.map_cons, List.map_nil]
          rw [hsnoc.out, if_pos (.inl hn)]
          exact boxed_of_heap (h3.set _) (one_set _ (by omega))
        · rw [List.map_append]
          simp only [List.map_cons, List.map_nil]
          rw [hsnoc.out, if_pos (.inl hn)]
          exact (boxed_of_heap h4 (one_set _ (by omega))).set _
      · by_cases h8 : l.length = 8
        · have h8' : ((l.length : Int) == 8) = true := by simp [h8]
          replace h8 := hide h8
          gi_wp2_with (refine ⟨trivial, ?_⟩; gi_at_call 203; refine (CallsIn.inRound lp ((callsIn_wide (n := _)).2 (decimal_calls ⟨x.toArray⟩ _ (by simpa [ByteArray.size] using hx)))).mono ?_; rintro e w' ⟨rfl, rfl⟩; rw [show (⟨x.toArray⟩ : ByteArray).data.toList = x from rfl, HD.out, if_pos rfl, HDN.out])
          refine ⟨((KeepsOthers.setCell _ _ _).trans (KeepsOthers.setCell _ _ _)).from _, ⟨two_sets _ (by omega) (by omega), two_sets _ (by omega) (by omega), two_sets _ (by omega) (by omega)⟩, ⟨⟨_, boxed_of_heap h1 (two_sets _ (by omega) (by omega)), ?_⟩, ?_, ?_, boxed_of_heap h5 (two_sets _ (by omega) (by omega)), boxed_of_heap h6 (two_sets _ (by omega) (by omega)), Hall.out _ HD.out, by simpa using hsz⟩, (hB.setCell (p := ⟨w.heap.size + 3, 0, none⟩) (by simp) _).setCell (p := ⟨w.heap.size + 4, 0, none⟩) (by simp) _⟩
          · rw [List.map_append]
            simp only [List.map_cons, List.map_nil]
            rw [hsnoc.out, if_pos (.inr h8.out)]
            exact ownsRow_of_heap h2 (fun k hk => two_sets k (by have := (h2.lt k hk).1; omega) (by have := (h2.lt k hk).1; omega))
          · rw [List.map_append]
            simp only [List.map_cons, List.map_nil]
            rw [hsnoc.out, if_pos (.inr h8.out)]
            exact boxed_of_heap (h3.set _) (one_set _ (by omega))
          · rw [List.map_append]
            simp only [List.map_cons, List.map_nil]
            rw [hsnoc.out, if_pos (.inr h8.out)]
            exact (boxed_of_heap h4 (one_set _ (by omega))).set _
        · have h8' : ((l.length : Int) == 8) = false := by simp; omega
          have hif := hide (show ¬ (1048576 < n ∨ l.length = 8) by omega)
          have h1' := boxed_of_heap h1 (one_set (a := w.heap.size + 3) (u := .int .i64 n) (w.heap.size + 2) (by omega))
          have h2' := ownsRow_of_heap h2 (fun k hk => one_set (a := w.heap.size + 3) (u := .int .i64 n) k (by have := (h2.lt k hk).1; omega))
          have hbs := hB.size
          gi_wp2_with (first | (refine ⟨trivial, ?_⟩; gi_at_call 203; refine (CallsIn.inRound lp ((callsIn_wide (n := _)).2 (decimal_calls ⟨x.toArray⟩ _ (by simpa [ByteArray.size] using hx)))).mono ?_; rintro e w' ⟨rfl, rfl⟩; rw [show (⟨x.toArray⟩ : ByteArray).data.toList = x from rfl, HD.out, if_pos rfl, HDN.out]) | (gi_at_builtin; refine wpListIn_append_own_at _ rfl (.tmp 28) _ 34 rfl (w.heap.size + 8) 3 i0 (.int .i64 0) 1 8 Tryz.underlying34 hi hz0 hz1 hz2 rfl (by decide) _ _ _ rfl (World.ownsRow.alloc h2' _) ⟨_, 0, none⟩ 1 1 [.int .i64 n] rfl rfl (cell_one_at (by simp)) (by intro u hu; simp at hu; subst hu; rfl) (by unfold maxLen; omega) (by omega) (by simp; omega) ?_; intro v1 w1 hown1 hgrow1 _ hat1; obtain ⟨g1, cap1, rfl⟩ := ownsRow_succ hown1; obtain ⟨bx1, t1, r1, k1, hb1, ho1⟩ := app_low (N := w.heap.size) h1' h2' (by simp; omega) (by omega) (by omega) hown1 hgrow1; have d1 := bx1.cell; have g1f := bx1.frozen; clear hgrow1 hat1 hown1))
          have q : ∀ b, b < w.heap.size + 8 → b ≠ w.heap.size + 2 → b ≠ w.heap.size + 3 → _ = w'.heap[b]? := fun b hb h2 h3 => (ho1.out b hb h2).trans (one_set b h3)
          refine ⟨((KeepsOthers.setCell _ _ _).trans k1).from _, ⟨q _ (by omega) (by omega) (by omega), q _ (by omega) (by omega) (by omega), q _ (by omega) (by omega) (by omega)⟩, ⟨⟨_, t1, ?_⟩, ?_, ?_, boxed_of_heap h5 (q _ (by omega) (by omega) (by omega)), boxed_of_heap h6 (q _ (by omega) (by omega) (by omega)), Hall.out _ HD.out, ?_⟩, (hB.setCell (p := ⟨w.heap.size + 3, 0, none⟩) (by simp) _).trans hb1⟩
          · rw [List.map_append]
            simp only [List.map_cons, List.map_nil]
            rw [hsnoc.out, if_neg hif.out]
            simpa using r1
          · rw [List.map_append]
            simp only [List.map_cons, List.map_nil]
            rw [hsnoc.out, if_neg hif.out]
            exact boxed_of_heap (h3.set _) (ho1.out _ (by omega) (by omega))
          · rw [List.map_append]
            simp only [List.map_cons, List.map_nil]
            rw [hsnoc.out, if_neg hif.out]
            exact boxed_of_heap h4 (q _ (by omega) (by omega) (by omega))
          · have := hb1.size
            simp at this ⊢
            omega
  case done =>
    rintro D ys W hD hys ⟨⟨⟨v, h1, h2⟩, h3, h4, h5, h6, h7, hsz⟩, hB⟩ hK
    clear b0 b1 b2 b3 b4 b5 hB8
    obtain ⟨pa, ca, rfl⟩ := ownsRow_slice h2
    rw [hys] at h1 h2 h3 h4 h7
    have hp : parseN (splitL s) = (if (stOf (splitL s)).2.1 = 0 then ([], 2) else if (stOf (splitL s)).2.2 then ([], 4) else ((stOf (splitL s)).1, 0)) := by unfold parseN; rw [if_pos h7]
    generalize stOf (splitL s) = st at *
    obtain ⟨l, last, long⟩ := st
    dsimp only at *
    obtain ⟨pn, hpn⟩ : ∃ pn, parseN (splitL s) = pn := ⟨_, rfl⟩
    rw [hpn] at hp
    have Hp := hide hp
    have Hpn := hide hpn
    clear hp hpn hys h7
    have c2 := h1.cell
    have c3 := h3.cell
    have c4 := h4.cell
    have c0 := h5.cell
    have c1 := h6.cell
    have f0 := h5.frozen
    have f1 := h6.frozen
    by_cases hl0 : last = 0
    · have hl0' : (last == 0) = true := by simp [hl0]
      have e := Hp.out
      rw [if_pos hl0] at e
      subst e
      clear Hp hl0
      gi_wp2
      obtain ⟨W3, hW3⟩ : ∃ W3, (W.setCell ⟨w.heap.size, 0, none⟩ (.slice none 0 0)).setCell ⟨w.heap.size + 1, 0, none⟩ (.int .i64 2) = W3 := ⟨_, rfl⟩
      have hK3 : W3.heap[D]? = some (.deferred (some [])) := by
        rw [← hW3]
        exact (KeepsOthers.setCell _ _ _).same D _ ((KeepsOthers.setCell _ _ _).same D _ hK rfl) rfl
      have R0 : Boxed W3 w.heap.size 34 (.slice none 0 0) := by rw [← hW3]; exact boxed_of_heap (h5.set _) (one_set _ (by omega))
      have R1 : Boxed W3 (w.heap.size + 1) 27 (.int .i64 2) := by rw [← hW3]; exact (boxed_of_heap h6 (one_set _ (by omega))).set _
      have hB3 : Below w.heap.size w W3 := by rw [← hW3]; exact (hB.setCell (p := ⟨w.heap.size, 0, none⟩) (by simp) _).setCell (p := ⟨w.heap.size + 1, 0, none⟩) (by simp) _
      have hk3 : ∀ k, w.heap.size + 8 ≤ k → W3.heap[k]? = W.heap[k]? := by intro k hk; rw [← hW3]; exact two_sets k (by omega) (by omega)
      rw [hW3]
      have hg := grownBy_putObj' W3 D (.deferred none)
      have hr : ∀ r, some D = some r → ∃ o : Obj, W3.heap[r]? = some o ∧ o.isCells = false := fun r e => by cases e; exact ⟨_, hK3, rfl⟩
      have Q0 := (boxed_own' hg hr R0).cell
      have Q1 := (boxed_own' hg hr R1).cell
      refine ⟨by simp, .inl ⟨_, _, rfl, run_takeDeferred hK3, ?_⟩⟩
      refine ⟨.tuple #[.slice none 0 0, .int .i64 2], by simp [results, Tryz.f206, go_sem, Q0, Q1], .slice none 0 0, by rw [Hpn.out], ?_, hB3.trans (belowK_b (w := w) (Nat.le_refl _) W3 D _ _ (by omega) hK3 rfl rfl)⟩
      rw [Hpn.out]
      exact World.ownsRow_nil _ _ _ _
    · have hl0' : (last == 0) = false := by simp [hl0]
      have e := Hp.out
      rw [if_neg hl0] at e
      clear Hp hl0
      cases long with
      | true =>
        rw [if_pos rfl] at e
        subst e
        gi_wp2
        obtain ⟨W3, hW3⟩ : ∃ W3, (W.setCell ⟨w.heap.size, 0, none⟩ (.slice none 0 0)).setCell ⟨w.heap.size + 1, 0, none⟩ (.int .i64 4) = W3 := ⟨_, rfl⟩
        have hK3 : W3.heap[D]? = some (.deferred (some [])) := by
          rw [← hW3]
          exact (KeepsOthers.setCell _ _ _).same D _ ((KeepsOthers.setCell _ _ _).same D _ hK rfl) rfl
        have R0 : Boxed W3 w.heap.size 34 (.slice none 0 0) := by rw [← hW3]; exact boxed_of_heap (h5.set _) (one_set _ (by omega))
        have R1 : Boxed W3 (w.heap.size + 1) 27 (.int .i64 4) := by rw [← hW3]; exact (boxed_of_heap h6 (one_set _ (by omega))).set _
        have hB3 : Below w.heap.size w W3 := by rw [← hW3]; exact (hB.setCell (p := ⟨w.heap.size, 0, none⟩) (by simp) _).setCell (p := ⟨w.heap.size + 1, 0, none⟩) (by simp) _
        have hk3 : ∀ k, w.heap.size + 8 ≤ k → W3.heap[k]? = W.heap[k]? := by intro k hk; rw [← hW3]; exact two_sets k (by omega) (by omega)
        rw [hW3]
        have hg := grownBy_putObj' W3 D (.deferred none)
        have hr : ∀ r, some D = some r → ∃ o : Obj, W3.heap[r]? = some o ∧ o.isCells = false := fun r e => by cases e; exact ⟨_, hK3, rfl⟩
        have Q0 := (boxed_own' hg hr R0).cell
        have Q1 := (boxed_own' hg hr R1).cell
        refine ⟨by simp, .inl ⟨_, _, rfl, run_takeDeferred hK3, ?_⟩⟩
        refine ⟨.tuple #[.slice none 0 0, .int .i64 4], by simp [results, Tryz.f206, go_sem, Q0, Q1], .slice none 0 0, by rw [Hpn.out], ?_, hB3.trans (belowK_b (w := w) (Nat.le_refl _) W3 D _ _ (by omega) hK3 rfl rfl)⟩
        rw [Hpn.out]
        exact World.ownsRow_nil _ _ _ _
      | false =>
        rw [if_neg (by simp)] at e
        subst e
        gi_wp2
        obtain ⟨W3, hW3⟩ : ∃ W3, (W.setCell ⟨w.heap.size, 0, none⟩ (.slice pa l.length ca)).setCell ⟨w.heap.size + 1, 0, none⟩ (.int .i64 0) = W3 := ⟨_, rfl⟩
        have hK3 : W3.heap[D]? = some (.deferred (some [])) := by
          rw [← hW3]
          exact (KeepsOthers.setCell _ _ _).same D _ ((KeepsOthers.setCell _ _ _).same D _ hK rfl) rfl
        have R0 : Boxed W3 w.heap.size 34 (.slice pa l.length ca) := by rw [← hW3]; exact boxed_of_heap (h5.set _) (one_set _ (by omega))
        have R1 : Boxed W3 (w.heap.size + 1) 27 (.int .i64 0) := by rw [← hW3]; exact (boxed_of_heap h6 (one_set _ (by omega))).set _
        have hB3 : Below w.heap.size w W3 := by rw [← hW3]; exact (hB.setCell (p := ⟨w.heap.size, 0, none⟩) (by simp) _).setCell (p := ⟨w.heap.size + 1, 0, none⟩) (by simp) _
        have hk3 : ∀ k, w.heap.size + 8 ≤ k → W3.heap[k]? = W.heap[k]? := by intro k hk; rw [← hW3]; exact two_sets k (by omega) (by omega)
        rw [hW3]
        have hg := grownBy_putObj' W3 D (.deferred none)
        have hr : ∀ r, some D = some r → ∃ o : Obj, W3.heap[r]? = some o ∧ o.isCells = false := fun r e => by cases e; exact ⟨_, hK3, rfl⟩
        have Q0 := (boxed_own' hg hr R0).cell
        have Q1 := (boxed_own' hg hr R1).cell
        refine ⟨by simp, .inl ⟨_, _, rfl, run_takeDeferred hK3, ?_⟩⟩
        refine ⟨.tuple #[.slice pa l.length ca, .int .i64 0], by simp [results, Tryz.f206, go_sem, Q0, Q1], .slice pa l.length ca, by rw [Hpn.out], ?_, hB3.trans (belowK_b (w := w) (Nat.le_refl _) W3 D _ _ (by omega) hK3 rfl rfl)⟩
        rw [Hpn.out]
        exact ownsRow_low (ownsRow_own' hg hr (ownsRow_of_heap h2 (fun k hk => hk3 k (h2.lt k hk).1))) (by omega)
  case stop =>
    rintro D c pre W hD hpre ⟨⟨rfl, h5, h6, h7⟩, hB⟩ hK
    clear b0 b1 b2 b3 b4 b5 hB8
    have hpn : parseN (splitL s) = ([], 2) := by
      unfold parseN
      rw [if_neg]
      intro hall
      rw [List.all_eq_true] at hall
      rw [List.all_eq_false] at h7
      obtain ⟨x, hx, hx'⟩ := h7
      exact hx' (hall x (hpre.subset hx))
    have Hpn := hide hpn
    clear hpn h7
    gi_wp2
    have hg := grownBy_putObj' W D (.deferred none)
    have hr : ∀ r, some D = some r → ∃ o : Obj, W.heap[r]? = some o ∧ o.isCells = false := fun r e => by cases e; exact ⟨_, hK, rfl⟩
    have Q0 := (boxed_own' hg hr h5).cell
    have Q1 := (boxed_own' hg hr h6).cell
    refine ⟨by simp, .inl ⟨_, _, rfl, run_takeDeferred hK, ?_⟩⟩
    refine ⟨.tuple #[.slice none 0 0, .int .i64 2], by simp [results, Tryz.f206, go_sem, Q0, Q1], .slice none 0 0, by rw [Hpn.out], ?_, hB.trans (belowK_b (w := w) (Nat.le_refl _) W D _ _ (by omega) hK rfl rfl)⟩
    rw [Hpn.out]
    exact World.ownsRow_nil _ _ _ _

theorem parseNumbers_calls (s : List UInt8) (w : World) (hs : s.length ≤ 1099511627776) :
    Calls Tryz.prog 206 #[.string ⟨s.toArray⟩] w fun e w' => ∃ v, e = .returned (.tuple #[v, .int .i64 (parseN (splitL s)).2]) ∧ IsNums .i64 w' v (parseN (splitL s)).1 ∧ Below w.heap.size w w' :=
  (parseNumbersO_calls s w hs).mono fun _ _ ⟨v, he, ho, hb⟩ => ⟨v, he, IsNums.of_row ho, hb⟩

end Go.Proofs.YtjbjjfndkpcciaaGreatDoor

/- vec's Parse: a text as a vector. Own work; no statement. -/
set_option linter.unusedSimpArgs false
set_option linter.unusedVariables false
namespace Go.Proofs.YtjbjjfndkpcciaaGreatDoor
open Go.RowKit Go.Shelf

/-- What is between the brackets. -/
def innerL (s : List UInt8) : List UInt8 := Lib.trimSuffix (Lib.trimPrefix s [91]) [93]
def bracketB (s : List UInt8) : Bool := Lib.hasPrefix s [91] && Lib.hasSuffix (Lib.trimPrefix s [91]) [93]
/-- A text as a vector and the error's number. -/
def parseL (s : List UInt8) : List Int × Int := if bracketB s then (if innerL s = [] then ([], 0) else parseN (splitL (innerL s))) else ([], 2)

theorem trimPrefix_length (s p : List UInt8) : (Lib.trimPrefix s p).length ≤ s.length := by unfold Lib.trimPrefix; split <;> simp
theorem trimSuffix_length (s p : List UInt8) : (Lib.trimSuffix s p).length ≤ s.length := by unfold Lib.trimSuffix; split <;> simp

set_option maxHeartbeats 1000000 in
theorem parseO_calls (s : ByteArray) (w : World) (hs : s.size ≤ 1099511627776) :
    Calls Tryz.prog 177 #[.string s] w fun e w' => ∃ v, e = .returned (.tuple #[v, .int .i64 (parseL s.data.toList).2]) ∧ w'.ownsRow w.heap.size 3 1 v (parseL s.data.toList).1.length ((parseL s.data.toList).1.map (Value.int .i64)) ∧ Below w.heap.size w w' := by
  have hl1 := trimPrefix_length s.data.toList [91]
  have hl2 := trimSuffix_length (Lib.trimPrefix s.data.toList [91]) [93]
  rw [← Lib.size_eq] at hl1
  obtain ⟨pn, hpn⟩ : ∃ pn, parseL s.data.toList = pn := ⟨_, rfl⟩
  have hdef : parseL s.data.toList = if bracketB s.data.toList then (if innerL s.data.toList = [] then ([], 0) else parseN (splitL (innerL s.data.toList))) else ([], 2) := rfl
  rw [hpn] at hdef ⊢
  clear hpn
  unfold bracketB innerL at hdef
  have c1 := hide (Tryz.strings_CutPrefix s ⟨#[91]⟩ w)
  simp only [show (⟨#[91]⟩ : ByteArray).data.toList = [91] from rfl] at c1
  generalize hb : Lib.trimPrefix s.data.toList [91] = b1 at *
  generalize ho : Lib.hasPrefix s.data.toList [91] = o1 at *
  have c2 := hide (Tryz.strings_CutSuffix ⟨b1.toArray⟩ ⟨#[93]⟩ w (by simp [ByteArray.size]; omega))
  simp only [show (⟨#[93]⟩ : ByteArray).data.toList = [93] from rfl, show (⟨b1.toArray⟩ : ByteArray).data.toList = b1 from rfl] at c2
  generalize hb2 : Lib.trimSuffix b1 [93] = b2 at *
  generalize ho2 : Lib.hasSuffix b1 [93] = o2 at *
  have Hdef := hide hdef
  clear hb ho hb2 ho2 hdef
  cases o1 with
  | false =>
    have e : pn = ([], 2) := Hdef.out
    subst e
    go_enter Tryz.func177, Tryz.ntmps177
    go_wp2_with (first | (go_at_call 204; refine c1.out.mono ?_; rintro e w' ⟨rfl, rfl⟩) | (go_at_call 205; refine c2.out.mono ?_; rintro e w' ⟨rfl, rfl⟩))
    go_ret2
    exact ⟨_, rfl, World.ownsRow_nil _ _ _ _, Below.refl _ _⟩
  | true =>
    cases o2 with
    | false =>
      have e : pn = ([], 2) := Hdef.out
      subst e
      go_enter Tryz.func177, Tryz.ntmps177
      go_wp2_with (first | (go_at_call 204; refine c1.out.mono ?_; rintro e w' ⟨rfl, rfl⟩) | (go_at_call 205; refine c2.out.mono ?_; rintro e w' ⟨rfl, rfl⟩))
      go_ret2
      exact ⟨_, rfl, World.ownsRow_nil _ _ _ _, Below.refl _ _⟩
    | true =>
      cases b2 with
      | nil =>
        have e : pn = ([], 0) := Hdef.out
        subst e
        go_enter Tryz.func177, Tryz.ntmps177
        go_wp2_with (first | (go_at_call 204; refine c1.out.mono ?_; rintro e w' ⟨rfl, rfl⟩) | (go_at_call 205; refine c2.out.mono ?_; rintro e w' ⟨rfl, rfl⟩))
        go_ret2
        exact ⟨_, rfl, World.ownsRow_nil _ _ _ _, Below.refl _ _⟩
      | cons x b2 =>
        have e : pn = parseN (splitL (x :: b2)) := Hdef.out
        clear Hdef
        generalize hb3 : x :: b2 = b3 at *
        have hne : b3.isEmpty = false := by rw [← hb3]; rfl
        have hpc := hide (parseNumbersO_calls b3 w (by omega))
        rw [← e] at hpc
        clear hb3 e
        go_enter Tryz.func177, Tryz.ntmps177
        go_wp2_with (first | (go_at_call 204; refine c1.out.mono ?_; rintro e w' ⟨rfl, rfl⟩) | (go_at_call 205; refine c2.out.mono ?_; rintro e w' ⟨rfl, rfl⟩) | (go_at_call 206; refine hpc.out.mono ?_; rintro e w' ⟨v, rfl, hv, hB⟩))
        go_ret2
        exact ⟨_, rfl, hv, hB⟩

theorem parse_calls (s : ByteArray) (w : World) (hs : s.size ≤ 1099511627776) :
    Calls Tryz.prog 177 #[.string s] w fun e w' => ∃ v, e = .returned (.tuple #[v, .int .i64 (parseL s.data.toList).2]) ∧ IsNums .i64 w' v (parseL s.data.toList).1 ∧ Below w.heap.size w w' :=
  (parseO_calls s w hs).mono fun _ _ ⟨v, he, ho, hb⟩ => ⟨v, he, IsNums.of_row ho, hb⟩

end Go.Proofs.YtjbjjfndkpcciaaGreatDoor
