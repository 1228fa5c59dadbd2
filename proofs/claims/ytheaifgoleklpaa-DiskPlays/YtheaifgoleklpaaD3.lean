/- disk's Twin, Lines; the laws' Lines, SameLines. Own work; no statement. -/
import Derived.Test.YtheaifgoleklpaaD2
set_option linter.unusedSimpArgs false
set_option linter.unusedVariables false
namespace Go.Proofs.Ytheaifgoleklpaa
open Go.RowKit Go.Shelf

attribute [local go_sem] Oper.semAt_some

theorem IsDisk.lower {w : World} {B B' p : Nat} {g : Option Nat} {D : DiskD} (h : IsDisk w B p g D) (hB : B' ≤ B) : IsDisk w B' p g D := by
  obtain ⟨v, hv, hp, hr⟩ := h.val
  exact ⟨h.ok, Nat.le_trans hB h.low, v, hv, hp, ownsRow_low hr hB⟩

set_option maxHeartbeats 2000000 in
theorem diskTwin_calls (B p : Nat) (g : Option Nat) (D : DiskD) (w : World) (hd : IsDisk w B p g D) :
    Calls Try.prog 20 #[.pointer (some ⟨p, 0, none⟩)] w fun e w' => e = .returned (.pointer (some ⟨w.heap.size, 0, none⟩)) ∧ ∃ g', IsDisk w' w.heap.size w.heap.size g' D ∧ Below w.heap.size w w' := by
  obtain ⟨a, cap, c0, c1, c2, c3, hf, hv, hr, hp⟩ := hd.open
  have hl := hd.len
  have Hd := hide hd
  have Hr := hide hr
  have Hp := hide hp
  clear hd hr hp hv hf
  have c3' := fun o => Lib.cell?_alloc_some o c3
  have HB : Below w.heap.size w (w.alloc (.cells #[.int .i64 D.room, .int .i64 (bytesOf D.lines), .int .i64 D.lasts, .slice a D.lines.length cap] 58)) := (Below.refl _ w).alloc (Nat.le_refl _) _
  have hnew := World.alloc_heap_new w (.cells #[.int .i64 D.room, .int .i64 (bytesOf D.lines), .int .i64 D.lasts, .slice a D.lines.length cap] 58)
  obtain ⟨W0, hW0⟩ : ∃ W0, w.alloc (.cells #[.int .i64 D.room, .int .i64 (bytesOf D.lines), .int .i64 D.lasts, .slice a D.lines.length cap] 58) = W0 := ⟨_, rfl⟩
  have hsz : W0.heap.size = w.heap.size + 1 := by rw [← hW0]; simp
  rw [hW0] at HB hnew
  have C := hide (cloneStrs_calls B _ D.lines W0 (ownsRow_of_heap Hr.out fun k e => HB.block k (Hr.out.lt k e).2) (by omega))
  have HW := hide hW0
  have Hn := hide hnew
  clear hW0 hnew
  go_enter Try.func20, Try.ntmps20
  go_wp2_with fail
  rw [HW.out]
  refine C.out.mono ?_
  rintro e w1 ⟨v', rfl, hown, hB1⟩
  have hp1 := (hB1.block w.heap.size (by omega)).trans Hn.out
  have d3 := cellsAt hp1 3
  simp only [List.getElem?_toArray, List.getElem?_cons_zero, List.getElem?_cons_succ] at d3
  have k3 := frozenAt hp1 3
  have hs1 := hB1.size
  obtain ⟨a', cap', rfl⟩ := ownsRow_slice hown
  have Ho := hide hown
  have Hp1 := hide hp1
  have HB1 := hide hB1
  clear hown hp1 c0 c1 c2 c3 c3' C HW Hn hB1
  go_wp2
  go_ret
  refine ⟨rfl, (Value.slice a' D.lines.length cap').ownBlock, ⟨Hd.out.ok, Nat.le_refl _, .slice a' D.lines.length cap', rfl, ?_, ?_⟩, ?_⟩
  · simpa using setAt (j := 3) Hp1.out (.slice a' D.lines.length cap')
  · refine ownsRow_low (ownsRow_of_heap Ho.out fun k e => Below.heap_setCell _ _ _ _ fun e' => ?_) (show w.heap.size ≤ W0.heap.size by omega)
    have := (Ho.out.lt k e).1
    have e2 : k = w.heap.size := e'
    omega
  · exact (HB.trans (HB1.out.mono HB.size)).setCell (p := ⟨w.heap.size, 3, none⟩) (Nat.le_refl _) _

/-- A box with a row of its own, the lines l: what Lines goes over. -/
def IsSeq (w : World) (b : Nat) (l : List ByteArray) : Prop :=
  ∃ v g, w.heap[b]? = some (.cells #[v] 40 (0, 0)) ∧ v.ownBlock = g ∧ w.ownsRow 0 9 1 v l.length (l.map Value.string)

theorem IsSeq.below {w w' : World} {b : Nat} {l : List ByteArray} (h : IsSeq w b l) (hb : Below w.heap.size w w') : IsSeq w' b l := by
  obtain ⟨v, g, h1, h2, h3⟩ := h
  exact ⟨v, g, (hb.block b (ltAt h1)).trans h1, h2, ownsRow_of_heap h3 fun k e => hb.block k (h3.lt k e).2⟩

set_option maxHeartbeats 2000000 in
theorem diskLines_calls (B p : Nat) (g : Option Nat) (D : DiskD) (w : World) (hd : IsDisk w B p g D) :
    Calls Try.prog 22 #[.pointer (some ⟨p, 0, none⟩)] w fun e w' => ∃ b, e = .returned (.func (.func 34) #[] #[.pointer (some ⟨b, 0, none⟩)]) ∧ w.heap.size ≤ b ∧ IsSeq w' b D.lines ∧ Below w.heap.size w w' := by
  have hmf : ∀ (fn : Fn) (first cap : Array Value) (w : World), (Instr.makeFunc fn first cap).run Try.prog w = .ok (.func fn first cap) w := fun _ _ _ _ => rfl
  obtain ⟨a, cap, c0, c1, c2, c3, hf, hv, hr, hp⟩ := hd.open
  have hl := hd.len
  have C := hide (cloneStrs_calls B _ D.lines w hr (by omega))
  clear hd hr hp hv hf
  go_enter Try.func22, Try.ntmps22
  go_wp2_with (go_at_call 33; refine C.out.mono ?_; rintro e w1 ⟨v', rfl, hown, hB1⟩; obtain ⟨a', cap', rfl⟩ := ownsRow_slice hown)
  go_ret
  refine ⟨w1.heap.size, rfl, hB1.size, ⟨.slice a' D.lines.length cap', _, World.alloc_heap_new w1 _, rfl, ownsRow_low (World.ownsRow.alloc hown _) (Nat.zero_le _)⟩, hB1.alloc hB1.size _⟩

/-- What a round of a loop over Lines must keep: the box, and the row. -/
def KeepsSeq (b : Nat) (g : Option Nat) (W W' : World) : Prop := ∀ k, onDisk b g k → W'.heap[k]? = W.heap[k]?
theorem keepsSeq_t {b : Nat} {g : Option Nat} {A B C : World} (h : KeepsSeq b g A B) (k : KeepsSeq b g B C) : KeepsSeq b g A C := fun i hi => (k i hi).trans (h i hi)
theorem keepsSeq_b {b n : Nat} {g : Option Nat} (hg : ∀ k, onDisk b g k → k < n) (W : World) (l : Nat) (o o' : Obj) (hl : n ≤ l) (_ : W.heap[l]? = some o) (_ : o.isCells = false) (_ : o.isWalk = false) : KeepsSeq b g W (W.putObj l o') := fun k hk => by
  have := hg k hk
  unfold World.putObj
  simp only [Array.getElem?_setIfInBounds]
  rw [if_neg (by omega)]

/-- A line and its place, handed over. -/
def encLine (x : Nat × ByteArray) : Array Value := #[.int .i64 (x.1 : Int), .string x.2]
/-- The lines with their places. -/
def placed (l : List ByteArray) : List (Nat × ByteArray) := l.zipIdx.map fun x => (x.2, x.1)
theorem placed_length (l : List ByteArray) : (placed l).length = l.length := by simp [placed]
theorem placed_get (l : List ByteArray) (k : Nat) (h : k < (placed l).length) : (placed l)[k] = (k, l[k]'(by simpa [placed] using h)) := by simp [placed]

set_option maxRecDepth 100000 in
set_option maxHeartbeats 2000000 in
theorem lines_seq (n : Nat) (hn : 1 ≤ n) (b : Nat) (v : Value) (g : Option Nat) (l : List ByteArray) (hlen : l.length ≤ 1099511627776) (w : World) (hbox : w.heap[b]? = some (.cells #[v] 40 (0, 0))) (hv : v.ownBlock = g) (hrow : w.ownsRow 0 9 1 v l.length (l.map Value.string)) :
    SeqL n Try.prog 34 #[.pointer (some ⟨b, 0, none⟩)] encLine (KeepsSeq b g) (placed l) w := by
  intro lp J Jx W hW hY h0
  have hbox := (hW.block b (ltAt hbox)).trans hbox
  have hrow := ownsRow_of_heap hrow fun k e => hW.block k (hrow.lt k e).2
  obtain ⟨a, cap, rfl⟩ := ownsRow_slice hrow
  have hbx := cellsAt hbox 0
  simp only [List.getElem?_toArray, List.getElem?_cons_zero] at hbx
  refine callsIn_of_wp Try.func34 rfl trivial ?_ rfl
  simp only [Try.ntmps34, List.size_toArray, List.length_cons, List.length_nil, Nat.reduceAdd, Nat.reduceSub, Array.replicate_succ, Array.replicate_zero, List.push_toArray, List.append_toArray, List.nil_append, List.cons_append]
  have HY := hide hY
  have Hr := hide hrow
  have Hv := hide hv
  clear hY hrow hbox hv
  gi_wp2
  clear hbx
  gi_loopw [7] (fun i wr => ∃ k : Nat, k ≤ l.length ∧ i = .int .i64 (k : Int) ∧ J k wr ∧ KeepsSeq b g W wr) (fun i _ => l.length - (intOf i).toNat)
  case atStart => exact ⟨0, Nat.zero_le _, rfl, h0, fun _ _ => rfl⟩
  case round =>
    obtain ⟨k, hk, rfl, hJs, hnx⟩ := hrel
    by_cases hlt : k < l.length
    · obtain ⟨b', rfl, hc⟩ := strs_cell Hr.out k hlt
      have hcx : wr.cell? ⟨b', k, none⟩ = some (.string l[k]) := (World.cell?_of_block (a := ⟨b', k, none⟩) (hnx b' (.inr (Hv.out.symm.trans rfl)))).trans hc
      have hltI : (k : Int) < (l.length : Int) := by omega
      have hy := HY.out k (by rw [placed_length]; exact hlt) wr hJs
      rw [placed_get] at hy
      obtain ⟨s, hs⟩ : ∃ s, l[k] = s := ⟨_, rfl⟩
      rw [hs] at hcx hc hy
      obtain ⟨fn, tmps, assign, body, hy, hR⟩ := hy
      dsimp only [encLine] at hy
      clear hs hc
      have Hn := hide hnx
      clear hnx
      gi_wp2
      refine hR.mono ?_
      rintro e W3 (⟨rfl, hJ3, hk3⟩ | ⟨rfl, hJx3⟩)
      · gi_wp2
        exact ⟨⟨k + 1, by omega, by go_num, hJ3, keepsSeq_t Hn.out hk3⟩, by simp [intOf]; omega⟩
      · gi_wp2
        refine bodyPost_ret (results_none rfl _ _ _) rfl ?_
        exact ⟨⟨_, rfl⟩, .inr ⟨k, by rw [placed_length]; exact hlt, hJx3⟩⟩
    · obtain rfl : k = l.length := by omega
      gi_wp2
      go_end0
      exact ⟨⟨_, rfl⟩, .inl (by rw [placed_length]; exact hJs)⟩

end Go.Proofs.Ytheaifgoleklpaa
