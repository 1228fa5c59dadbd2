/- Slices of calls on a disk that came in: what they read as. Own work; no statement. -/
import Derived.Test.YtheaifgoleklpaaFrameS
set_option linter.unusedSimpArgs false
set_option linter.unusedVariables false
namespace Go.Proofs.Ytheaifgoleklpaa
open Go.ChangeShapes Go.WideShapes Go.ChangeAt Go.RowKit Go.Deep

/-- A call on a disk. -/
structure ActD where
  op : Int
  n : Int
  s : ByteArray

def ActAt (w : World) (b o : Nat) (x : ActD) : Prop := w.cell? ⟨b, o, none⟩ = some (.int .i64 x.op) ∧ w.cell? ⟨b, o + 1, none⟩ = some (.int .i64 x.n) ∧ w.cell? ⟨b, o + 2, none⟩ = some (.string x.s)
theorem ActAt.below {w w' : World} {b o : Nat} {x : ActD} (h : ActAt w b o x) (hb : Below w.heap.size w w') : ActAt w' b o x := by
  have hlt : b < w.heap.size := World.block_lt_of_cell? w _ h.1
  exact ⟨(hb.cell (p := ⟨b, o, none⟩) hlt).trans h.1, (hb.cell (p := ⟨b, o + 1, none⟩) hlt).trans h.2.1, (hb.cell (p := ⟨b, o + 2, none⟩) hlt).trans h.2.2⟩
/-- In the world w the slice v reads as the calls l. -/
def IsActs (w : World) (v : Value) (l : List ActD) : Prop := ∃ a cap, v = .slice a l.length cap ∧ ∀ t (h : t < l.length), ∃ b o, a = some ⟨b, o, none⟩ ∧ ActAt w b (o + t * 3) l[t]
theorem IsActs.below {w w' : World} {v : Value} {l : List ActD} (h : IsActs w v l) (hb : Below w.heap.size w w') : IsActs w' v l := by
  obtain ⟨a, cap, rfl, h⟩ := h
  exact ⟨a, cap, rfl, fun t ht => let ⟨b, o, e, hr⟩ := h t ht; ⟨b, o, e, hr.below hb⟩⟩
structure ActWf (x : ActD) : Prop where
  op : (Lit.int .i64 x.op).wf = true
  n : (Lit.int .i64 x.n).wf = true
  s : x.s.size ≤ maxLen

set_option maxRecDepth 100000 in
theorem act_cells {H : Type} {enc : TypeId × Value → H} {W : World} {base : Nat} {sp : Nat → Bool} {held : Bool} {fuel : Nat} {cs : List Value} {x : DataW H × List MemPlace} (h : DataW.trod enc Try.prog W base sp held fuel 33 cs = some x) :
    ∃ r : ActD, cs = [.int .i64 r.op, .int .i64 r.n, .string r.s] ∧ ActWf r := by
  obtain ⟨xs, n, _, rfl, hl, hlen, hf⟩ := DataW.trod_struct Try.underlying33 h
  have hc : Try.prog.cellsOf 33 = 3 := by kernel_rfl
  have h3 : Try.prog.cellsOf 3 = 1 := by kernel_rfl
  have h5 : Try.prog.cellsOf 9 = 1 := by kernel_rfl
  rw [hc] at hl
  match cs, hl, xs, hlen with
  | [c0, c1, c2], _, [y0, y1, y2], _ =>
    have f0 := hf 0 _ rfl
    have f1 := hf 1 _ rfl
    have f2 := hf 2 _ rfl
    simp [h3, h5] at f0 f1 f2
    obtain ⟨op, e0, -, w0⟩ := DataW.trod_int Try.underlying3 f0
    obtain ⟨n, e1, -, w1⟩ := DataW.trod_int Try.underlying3 f1
    obtain ⟨s, e2, -, w2⟩ := DataW.trod_string Try.underlying9 f2
    simp at e0 e1 e2
    subst e0 e1 e2
    exact ⟨⟨op, n, s⟩, rfl, ⟨w0, w1, w2⟩⟩

set_option maxRecDepth 100000 in
theorem acts_open {H : Type} {enc : TypeId × Value → H} {W : World} {base b0 : Nat} {sp : Nat → Bool} {held : Bool} {r : Reach} {v : Value} {d : DataW H} {p : List MemPlace} (hv : Value.okWide Try.prog W r b0 22 v) (h : DataW.Trod enc Try.prog W base sp held 22 v d p) (hsp : ∀ b, sp b = true) :
    ∃ l : List ActD, IsActs W v l ∧ (∀ x ∈ l, ActWf x) := by
  obtain ⟨a, len, cap, rfl⟩ := okWide_slice Try.underlying22 hv
  obtain ⟨fuel, hf⟩ := h
  have hc : Try.prog.cellsOf 33 = 3 := by kernel_rfl
  rcases open_slice Try.underlying22 hf with ⟨hcs, _⟩ | ⟨ad, len', cp, m, n', D, Pl, hcs, _, hlc, _, hm, hx, hat⟩
  · simp [Value.cells] at hcs
    obtain ⟨rfl, rfl, rfl⟩ := hcs
    exact ⟨[], ⟨none, 0, rfl, fun t ht => absurd ht (by simp)⟩, by simp⟩
  · simp [Value.cells] at hcs
    obtain ⟨rfl, rfl, rfl⟩ := hcs
    rw [hsp, if_pos rfl] at hm
    rw [hc] at hat
    have each : ∀ i, i < len → ∃ q : ActD, (W.cells? base (ad.add (i * 3)) 3 = some [.int .i64 q.op, .int .i64 q.n, .string q.s]) ∧ ActWf q := by
      intro i hi
      obtain ⟨cs', h1, h2⟩ := hat i (by omega)
      obtain ⟨q, e, hw⟩ := act_cells h2
      exact ⟨q, by rw [h1, e], hw⟩
    have : Inhabited ActD := ⟨⟨0, 0, ByteArray.empty⟩⟩
    obtain ⟨q, hq⟩ := choose_lt each
    have hlen : ((List.range len).map fun i => q i).length = len := by simp
    refine ⟨(List.range len).map fun i => q i, ⟨some ad, cap, by rw [hlen], fun t ht => ?_⟩, fun r hr => ?_⟩
    · rw [hlen] at ht
      obtain ⟨h1, _⟩ := hq t ht
      obtain ⟨_, _, hcell⟩ := World.cells?_some h1
      obtain ⟨b, off, spot⟩ := ad
      have g0 := hcell 0 (by omega)
      have g1 := hcell 1 (by omega)
      have g2 := hcell 2 (by omega)
      rw [add_add] at g0 g1 g2
      simp only [List.getElem?_cons_zero, List.getElem?_cons_succ, List.getD, Option.getD_some, Nat.add_zero] at g0 g1 g2
      have hspot : spot = none := by
        obtain ⟨k1, _⟩ := hq 0 (by omega)
        obtain ⟨_, _, kcell⟩ := World.cells?_some k1
        have k0 := kcell 0 (by omega)
        rw [add_add] at k0
        simpa [Addr.add] using World.cell?_spot k0
      subst hspot
      rw [Go.WideShapes.add_plain] at g0 g1 g2
      refine ⟨b, off, rfl, ?_⟩
      rw [List.getElem_map, List.getElem_range]
      exact ⟨g0, by rw [Nat.add_assoc]; exact g1, by rw [Nat.add_assoc]; exact g2⟩
    · obtain ⟨i, hi, rfl⟩ := List.mem_map.1 hr
      exact (hq i (List.mem_range.1 hi)).2

/-- What few tells. -/
def FewA (l : List ActD) (e : Ending) : Prop := ∃ b : Bool, e = .returned (.bool b) ∧ (b = true → l.length ≤ 60 ∧ ∀ x ∈ l, x.s.size ≤ 200)
set_option maxHeartbeats 1000000 in
theorem few3_calls (v : Value) (l : List ActD) (w : World) (hv : IsActs w v l) (hw : ∀ x ∈ l, ActWf x) :
    Calls Try.prog 9 #[v] w fun e w' => FewA l e ∧ w' = w := by
  obtain ⟨a, cap, rfl, hcell⟩ := hv
  have Hc := hide hcell
  have Hw := hide hw
  clear hcell hw
  by_cases hl : l.length ≤ 60
  · have hlI : ¬ (60 : Int) < (l.length : Int) := by omega
    go_enter Try.func9, Try.ntmps9
    go_wp2_with fail
    go_loop [3] (fun x => ∃ k : Nat, k ≤ l.length ∧ x = .int .i64 (k : Int) ∧ ∀ j (hj : j < l.length), j < k → l[j].s.size ≤ 200) (fun x => l.length - (intOf x).toNat)
    case atStart => exact ⟨0, Nat.zero_le _, rfl, fun j _ h2 => by omega⟩
    case round =>
      obtain ⟨k, hk, rfl, hall⟩ := hrel
      have Hall := hide hall
      clear hall
      by_cases hlt : k < l.length
      · have hltI : (k : Int) < (l.length : Int) := by omega
        obtain ⟨b, o, rfl, -, -, c2⟩ := Hc.out k hlt
        have hs := (Hw.out l[k] (List.getElem_mem hlt)).s
        unfold maxLen at hs
        have Hse : Hid (∀ s, l[k].s = s → ∀ j (hj : j < l.length), j = k → l[j].s = s) := fun s h j hj e => by subst e; exact h
        obtain ⟨s, hse⟩ : ∃ s, l[k].s = s := ⟨_, rfl⟩
        have Hs2 := hide (Hse.out s hse)
        rw [hse] at c2 hs
        clear hse Hse
        by_cases h2 : s.size ≤ 200
        · have h2I : ¬ (200 : Int) < (s.size : Int) := by omega
          go_wp2_with fail
          refine ⟨⟨k + 1, by omega, by go_num, fun j hj h3 => ?_⟩, by simp [intOf]; omega⟩
          by_cases e : j = k
          · rw [Hs2.out j hj e]; exact h2
          · exact Hall.out j hj (by omega)
        · have h2I : (200 : Int) < (s.size : Int) := by omega
          go_wp2_with fail
          go_ret
          exact ⟨⟨_, rfl, fun h => by cases h⟩, rfl⟩
      · have hltI : ¬ (k : Int) < (l.length : Int) := by omega
        go_wp2
        go_ret
        refine ⟨⟨_, rfl, fun _ => ⟨hl, fun x hx => ?_⟩⟩, rfl⟩
        obtain ⟨j, hj, rfl⟩ := List.mem_iff_getElem.1 hx
        exact Hall.out j hj (by omega)
  · have hlI : (60 : Int) < (l.length : Int) := by omega
    go_enter Try.func9, Try.ntmps9
    go_wp2
    go_ret
    exact ⟨⟨_, rfl, fun h => by cases h⟩, rfl⟩

end Go.Proofs.Ytheaifgoleklpaa
