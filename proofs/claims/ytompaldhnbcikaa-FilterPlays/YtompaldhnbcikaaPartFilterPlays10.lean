/- Own work: the parts RefS, RF1, RF2, RF3, RF5 of the proof, laid together. -/
import Derived.Test.YtompaldhnbcikaaPartFilterPlays6
import Derived.Test.YtompaldhnbcikaaPartFilterPlays8
import Derived.Test.YtompaldhnbcikaaPartFilterPlays9
import Derived.Laws.AppendOwnNone
import Derived.Deep.AppendLies
/- The reference's CheckCell, CheckRec. Own work; no statement. -/
set_option linter.unusedSimpArgs false
set_option linter.unusedVariables false
namespace Go.Proofs.Ytompaldhnbcikaa
open Go.RowKit

/-- Whether a key and a value may be. -/
def cellL (k v : List UInt8) : Int := if isKeyL k then checkValL v else 3

set_option maxHeartbeats 4000000 in
theorem refCell_calls (key val : ByteArray) (w : World) (hks : key.size ≤ 1099511627776) (hvs : val.size ≤ 1099511627776) :
    Calls Try.prog 42 #[.string key, .string val] w fun e w' => e = .returned (.int .i64 (cellL key.data.toList val.data.toList)) ∧ w' = w := by
  obtain ⟨c, hc⟩ : ∃ c, cellL key.data.toList val.data.toList = c := ⟨_, rfl⟩
  rw [hc]
  unfold cellL isKeyL checkValL at hc
  rw [← Lib.size_eq, ← Lib.size_eq] at hc
  have Hc := hide hc
  clear hc
  by_cases h1 : (key.size : Int) < 1
  · obtain rfl : 3 = c := by rw [← Hc.out, decide_eq_false (by omega)]; rfl
    go_enter Try.func42, Try.ntmps42
    go_wp2
    go_ret
    exact ⟨rfl, rfl⟩
  · by_cases h8 : 8 < (key.size : Int)
    · obtain rfl : 3 = c := by rw [← Hc.out, decide_eq_false (by omega)]; rfl
      go_enter Try.func42, Try.ntmps42
      go_wp2
      go_ret
      exact ⟨rfl, rfl⟩
    · have e := Hc.out
      rw [decide_eq_true (by omega), Bool.true_and] at e
      clear Hc
      replace e := hide e
      go_enter Try.func42, Try.ntmps42
      go_wp2
      go_loop [5] (fun i => ∃ k : Nat, k ≤ key.size ∧ i = .int .i64 (k : Int) ∧ ∀ c ∈ key.data.toList.take k, keyB c = true) (fun i => key.size - (intOf i).toNat)
      case atStart => exact ⟨0, Nat.zero_le _, rfl, by simp⟩
      case round =>
        obtain ⟨k, hk, rfl, hall⟩ := hrel
        replace hall := hide hall
        by_cases hkl : k < key.size
        · have hlt : (k : Int) < (key.size : Int) := by omega
          cases hd : keyB key[k] with
          | true =>
            have hsn := hide (all_snoc key k hkl hall.out hd)
            unfold keyB at hd
            simp only [decide_eq_true_eq] at hd
            by_cases h97 : ((key[k].toNat : Nat) : Int) < 97
            · have h48 : ¬ ((key[k].toNat : Nat) : Int) < 48 := by omega
              have h57 : ¬ 57 < ((key[k].toNat : Nat) : Int) := by omega
              clear hd
              go_wp2
              exact ⟨⟨k + 1, by omega, by go_num, hsn.out⟩, by simp [intOf]; omega⟩
            · have h122 : ¬ 122 < ((key[k].toNat : Nat) : Int) := by omega
              clear hd
              go_wp2
              exact ⟨⟨k + 1, by omega, by go_num, hsn.out⟩, by simp [intOf]; omega⟩
          | false =>
            obtain rfl : 3 = c := by rw [← e.out, all_not key k hkl hd]; rfl
            unfold keyB at hd
            simp only [decide_eq_false_iff_not] at hd
            by_cases h97 : ((key[k].toNat : Nat) : Int) < 97
            · by_cases h48 : ((key[k].toNat : Nat) : Int) < 48
              · clear hd
                go_wp2
                go_ret
                exact ⟨rfl, rfl⟩
              · have h57 : 57 < ((key[k].toNat : Nat) : Int) := by omega
                clear hd
                go_wp2
                go_ret
                exact ⟨rfl, rfl⟩
            · have h122 : 122 < ((key[k].toNat : Nat) : Int) := by omega
              have h48 : ¬ ((key[k].toNat : Nat) : Int) < 48 := by omega
              have h57 : 57 < ((key[k].toNat : Nat) : Int) := by omega
              clear hd
              go_wp2
              go_ret
              exact ⟨rfl, rfl⟩
        · have e2 := e.out
          rw [all_end key k hkl hall.out, if_pos rfl] at e2
          clear e hall
          replace e2 := hide e2
          have hkl' : ¬ (k : Int) < (key.size : Int) := by omega
          clear hkl
          go_wp2
          go_loop [6] (fun i => ∃ k : Nat, k ≤ val.size ∧ i = .int .i64 (k : Int) ∧ ∀ c ∈ val.data.toList.take k, valB c = true) (fun i => val.size - (intOf i).toNat)
          case atStart => exact ⟨0, Nat.zero_le _, rfl, by simp⟩
          case round =>
            obtain ⟨k, hk, rfl, hall⟩ := hrel
            replace hall := hide hall
            by_cases hkl : k < val.size
            · have hlt : (k : Int) < (val.size : Int) := by omega
              cases hd : valB val[k] with
              | true =>
                have hsn := hide (all_snoc val k hkl hall.out hd)
                unfold valB at hd
                simp only [decide_eq_true_eq] at hd
                have h33 : ¬ ((val[k].toNat : Nat) : Int) < 33 := by omega
                have h126 : ¬ 126 < ((val[k].toNat : Nat) : Int) := by omega
                clear hd
                go_wp2
                exact ⟨⟨k + 1, by omega, by go_num, hsn.out⟩, by simp [intOf]; omega⟩
              | false =>
                obtain rfl : 2 = c := by rw [← e2.out, all_not val k hkl hd]; rfl
                unfold valB at hd
                simp only [decide_eq_false_iff_not] at hd
                by_cases h33 : ((val[k].toNat : Nat) : Int) < 33
                · clear hd
                  go_wp2
                  go_ret
                  exact ⟨rfl, rfl⟩
                · have h126 : 126 < ((val[k].toNat : Nat) : Int) := by omega
                  clear hd
                  go_wp2
                  go_ret
                  exact ⟨rfl, rfl⟩
            · have e3 := e2.out
              rw [all_end val k hkl hall.out, if_pos rfl] at e3
              by_cases h16 : 16 < (val.size : Int)
              · rw [if_pos (by omega)] at e3
                subst e3
                go_wp2
                go_ret
                exact ⟨rfl, rfl⟩
              · rw [if_neg (by omega)] at e3
                subst e3
                go_wp2
                go_ret
                exact ⟨rfl, rfl⟩

set_option maxHeartbeats 2000000 in
theorem refCheckRec_calls (v : Value) (r : RecD) (s : Int) (w : World) (hv : IsRec w v r) (hl : r.dep.length ≤ 1099511627776) (hks : r.key.size ≤ 1099511627776) (hvs : r.val.size ≤ 1099511627776) :
    Calls Try.prog 30 #[v, .int .i64 s] w fun e w' => e = .returned (.int .i64 (checkR r s)) ∧ Below w.heap.size w w' := by
  obtain ⟨c, hc⟩ : ∃ c, checkR r s = c := ⟨_, rfl⟩
  rw [hc]
  unfold checkR at hc
  obtain ⟨site, seq, dep, key, val⟩ := r
  obtain ⟨a, cap, rfl, hn⟩ := hv
  dsimp only at *
  have HB := hide (box_below w (.cells #[.int .i64 site, .int .i64 seq, .slice a dep.length cap, .string key, .string val] 41))
  have Hn := hide (hn.below HB.out)
  have Hc := hide hc
  clear hn hc
  by_cases h0 : s < 1
  · have e : c = 1 := by rw [← Hc.out, if_pos (by omega)]
    subst e
    go_enter Try.func30, Try.ntmps30
    go_wp2
    go_ret
    exact ⟨rfl, HB.out⟩
  by_cases h1 : 8 < s
  · have e : c = 1 := by rw [← Hc.out, if_pos (by omega)]
    subst e
    go_enter Try.func30, Try.ntmps30
    go_wp2
    go_ret
    exact ⟨rfl, HB.out⟩
  by_cases h2 : site < 0
  · have e : c = 1 := by rw [← Hc.out, if_pos (by omega)]
    subst e
    go_enter Try.func30, Try.ntmps30
    go_wp2
    go_ret
    exact ⟨rfl, HB.out⟩
  by_cases h3 : s ≤ site
  · have e : c = 1 := by rw [← Hc.out, if_pos (by omega)]
    subst e
    go_enter Try.func30, Try.ntmps30
    go_wp2
    go_ret
    exact ⟨rfl, HB.out⟩
  by_cases h4 : seq < 1
  · have e : c = 1 := by rw [← Hc.out, if_pos (by omega)]
    subst e
    go_enter Try.func30, Try.ntmps30
    go_wp2
    go_ret
    exact ⟨rfl, HB.out⟩
  by_cases h5 : 1048576 < seq
  · have e : c = 1 := by rw [← Hc.out, if_pos (by omega)]
    subst e
    go_enter Try.func30, Try.ntmps30
    go_wp2
    go_ret
    exact ⟨rfl, HB.out⟩
  have e := Hc.out
  rw [if_neg (by omega)] at e
  clear Hc
  obtain ⟨q, hq⟩ : ∃ q, checkL dep s = q := ⟨_, rfl⟩
  rw [hq] at e
  replace e := hide e
  have Hq := hide hq
  clear hq
  by_cases hq0 : q = 0
  · have e1 := e.out
    rw [if_pos hq0] at e1
    subst hq0
    clear e
    replace e1 := hide e1
    obtain ⟨g, hg⟩ : ∃ g, geti dep site = g := ⟨_, rfl⟩
    have Hg := hide hg
    have HG := hide (fun n => refGet_calls _ dep site _ (Hn.out.below (below_draws n)) hl)
    rw [hg] at HG
    clear hg
    by_cases h13 : seq ≤ g
    · have e2 : c = 13 := by rw [← e1.out, Hg.out, if_pos h13]
      subst e2
      go_enter Try.func30, Try.ntmps30
      go_wp2_with (go_at_call 40; refine (refCheck_calls _ dep s _ Hn.out hl).mono ?_; rintro e w' ⟨rfl, rfl⟩; rw [Hq.out])
      go_quiet (first | (go_at_call 41; refine Calls.quiet_of_same (HG.out _)))
      go_wp2
      go_ret
      exact ⟨rfl, HB.out.trans (below_draws _)⟩
    · have e2 := e1.out
      rw [Hg.out, if_neg h13] at e2
      clear e1
      replace e2 := hide e2
      obtain ⟨kb, hkb⟩ : ∃ kb, cellL key.data.toList val.data.toList = kb := ⟨_, rfl⟩
      have e3 : c = kb := by rw [← e2.out, ← hkb]; rfl
      subst e3
      have Hkb := hide hkb
      clear hkb e2
      go_enter Try.func30, Try.ntmps30
      go_wp2_with (go_at_call 40; refine (refCheck_calls _ dep s _ Hn.out hl).mono ?_; rintro e w' ⟨rfl, rfl⟩; rw [Hq.out])
      go_quiet (first | (go_at_call 41; refine Calls.quiet_of_same (HG.out _)))
      go_wp2_with (go_at_call 42; refine (refCell_calls key val _ hks hvs).mono ?_; rintro e w' ⟨rfl, rfl⟩; rw [Hkb.out])
      go_ret
      exact ⟨rfl, HB.out.trans (below_draws _)⟩
  · have e1 := e.out
    rw [if_neg hq0] at e1
    subst e1
    clear e
    have hq1 : (q != 0) = true := by simp [hq0]
    clear hq0
    go_enter Try.func30, Try.ntmps30
    go_wp2_with (go_at_call 40; refine (refCheck_calls _ dep s _ Hn.out hl).mono ?_; rintro e w' ⟨rfl, rfl⟩; rw [Hq.out])
    go_ret
    exact ⟨rfl, HB.out⟩


end Go.Proofs.Ytompaldhnbcikaa

/- The reference's filters in memory: NewFilter, First, Reset. Own work; no statement. -/
set_option linter.unusedSimpArgs false
set_option linter.unusedVariables false
namespace Go.Proofs.Ytompaldhnbcikaa
open Go.RowKit Go.Shelf Go.Sort

/-- At block m there lies the reference's filter; its records' numbers read in w0. -/
structure IsRF (w0 W : World) (B m : Nat) (F : FilD) : Prop where
  low : B ≤ m
  val : ∃ (v : Value) (l : List Pl), l.map (·.r) = F.L ∧ W.heap[m]? = some (.cells #[.int .i64 F.site, .int .i64 F.room, .int .i64 F.next, v] 58 (0, 0)) ∧ W.ownsRow B 41 5 v l.length (l.flatMap Pl.cells5) ∧ ∀ q ∈ l, IsNums .i64 w0 q.vd q.r.dep
theorem IsRF.lt {w0 W : World} {B m : Nat} {F : FilD} (h : IsRF w0 W B m F) : m < W.heap.size := by
  obtain ⟨v, l, -, h2, -⟩ := h.val
  exact ltAt h2
/-- It is as it was where blocks of its types have not turned. -/
theorem IsRF.keep {w0 W W' : World} {B m : Nat} {F : FilD} (h : IsRF w0 W B m F) (hk : ∀ (k : Nat) (c : Array Value) (t : TypeId), B ≤ k → W.heap[k]? = some (.cells c t (0, 0)) → (t = 58 ∨ t = 41) → W'.heap[k]? = W.heap[k]?) : IsRF w0 W' B m F := by
  obtain ⟨v, l, h1, h2, h3, h4⟩ := h.val
  refine ⟨h.low, v, l, h1, (hk _ _ _ h.low h2 (.inl rfl)).trans h2, ownsRow_of_heap h3 fun k e => ?_, h4⟩
  have hl := (h3.lt k e).1
  rcases h3.2 with ⟨rfl, _⟩ | ⟨g, cap, cur, rfl, _, hg, _⟩
  · cases e
  · obtain rfl : g = k := by simpa [Value.ownBlock] using e
    exact hk _ _ _ hl hg (.inr rfl)
theorem IsRF.below {w0 W W' : World} {B m : Nat} {F : FilD} (h : IsRF w0 W B m F) (hb : Below W.heap.size W W') : IsRF w0 W' B m F := h.keep fun k _ _ _ e _ => hb.block k (ltAt e)
theorem IsRF.kept {w0 W W' : World} {B m : Nat} {F : FilD} (h : IsRF w0 W B m F) (k : Kept W W') : IsRF w0 W' B m F := h.keep fun i c t _ e ht => k i c t _ e (by rcases ht with rfl | rfl <;> decide)

theorem refNew7_calls (s r : Int) (w : World) (h : 0 ≤ s ∧ s < 8 ∧ 1 ≤ r ∧ r ≤ 64) (w0 : World) :
    Calls Try.prog 11 #[.int .i64 s, .int .i64 r] w fun e w' => e = .returned (.tuple #[.pointer (some ⟨w.heap.size, 0, none⟩), .int .i64 0]) ∧ IsRF w0 w' w.heap.size w.heap.size ⟨s, r, 1, []⟩ ∧ Below w.heap.size w w' := by
  obtain ⟨h1, h2, h3, h4⟩ := h
  go_enter Try.func11, Try.ntmps11
  go_wp2
  go_ret2
  exact ⟨rfl, ⟨Nat.le_refl _, .slice none 0 0, [], rfl, World.alloc_heap_new w _, World.ownsRow_nil _ _ _ _, fun q hq => by cases hq⟩, box_below w _⟩
theorem refNew7_none (s r : Int) (w : World) (h : ¬ (0 ≤ s ∧ s < 8 ∧ 1 ≤ r ∧ r ≤ 64)) :
    Calls Try.prog 11 #[.int .i64 s, .int .i64 r] w fun e w' => e = .returned (.tuple #[.pointer none, .int .i64 1]) ∧ w' = w := by
  have hh := hide h
  clear h
  by_cases h1 : s < 0
  · go_enter Try.func11, Try.ntmps11
    go_wp2
    go_ret2
    exact ⟨rfl, rfl⟩
  by_cases h2 : 8 ≤ s
  · go_enter Try.func11, Try.ntmps11
    go_wp2
    go_ret2
    exact ⟨rfl, rfl⟩
  by_cases h3 : r < 1
  · go_enter Try.func11, Try.ntmps11
    go_wp2
    go_ret2
    exact ⟨rfl, rfl⟩
  by_cases h4 : 64 < r
  · go_enter Try.func11, Try.ntmps11
    go_wp2
    go_ret2
    exact ⟨rfl, rfl⟩
  exact absurd ⟨by omega, by omega, by omega, by omega⟩ hh.out

/-- The cells of the j-th record of a row. -/
theorem row_cells {W : World} {B : Nat} {T : TypeId} {v : Value} {l : List Pl} (h : W.ownsRow B T 5 v l.length (l.flatMap Pl.cells5)) (j : Nat) (hj : j < l.length) :
    ∃ g cap, v = .slice (some ⟨g, 0, none⟩) l.length cap ∧ W.cell? ⟨g, j * 5, none⟩ = some (.int .i64 l[j].r.site) ∧ W.cell? ⟨g, j * 5 + 1, none⟩ = some (.int .i64 l[j].r.seq) ∧ W.cell? ⟨g, j * 5 + 2, none⟩ = some l[j].vd ∧ W.cell? ⟨g, j * 5 + 3, none⟩ = some (.string l[j].r.key) ∧ W.cell? ⟨g, j * 5 + 4, none⟩ = some (.string l[j].r.val) := by
  obtain ⟨a, cap, rfl⟩ := ownsRow_slice h
  rcases h.2 with ⟨e1, e2⟩ | ⟨g, cap', cur, e1, -⟩
  · omega
  · simp only [Value.slice.injEq] at e1
    obtain ⟨rfl, -, rfl⟩ := e1
    have hc : ∀ i, i < 5 → W.cell? ⟨g, j * 5 + i, none⟩ = (l[j]).cells5[i]? := fun i hi => by
      rw [h.cellAt (j * 5 + i) (by omega), flat5 l j i hj hi]
    have c0 := hc 0 (by omega)
    have c1 := hc 1 (by omega)
    have c2 := hc 2 (by omega)
    have c3 := hc 3 (by omega)
    have c4 := hc 4 (by omega)
    simp only [Pl.cells5, List.getElem?_cons_zero, List.getElem?_cons_succ, Nat.add_zero] at c0 c1 c2 c3 c4
    exact ⟨g, cap, rfl, c0, c1, c2, c3, c4⟩

theorem first_at {F : FilD} (k : Nat) (hk : k < F.L.length) (h : ∀ j (hj : j < F.L.length), j < k → F.L[j].seq ≠ F.next) (he : F.L[k].seq = F.next) : firstF F = some F.L[k] := by
  unfold firstF
  rw [List.find?_eq_some_iff_getElem]
  refine ⟨by simpa using he, k, hk, rfl, fun j hj => ?_⟩
  simpa using h j (by omega) hj
theorem first_none {F : FilD} (h : ∀ j (hj : j < F.L.length), F.L[j].seq ≠ F.next) : firstF F = none := by
  unfold firstF
  rw [List.find?_eq_none]
  intro x hx
  obtain ⟨j, hj, rfl⟩ := List.getElem_of_mem hx
  simpa using h j hj

set_option maxRecDepth 100000 in
set_option maxHeartbeats 4000000 in
theorem refFirst7_calls (w0 : World) (B m : Nat) (F : FilD) (o : Option RecD) (ho : firstF F = o) (w : World) (hf : IsRF w0 w B m F) (hlen : F.L.length ≤ 1048576) :
    Calls Try.prog 22 #[.pointer (some ⟨m, 0, none⟩)] w fun e w' => ∃ v, e = .returned (.tuple #[v, .bool o.isSome]) ∧ IsRec w0 v (o.getD zeroR) ∧ RowKit.Below w.heap.size w w' := by
  obtain ⟨v, l, hl, hm, hr, hn⟩ := hf.val
  obtain ⟨c0, c1, c2, c3, -, -, -, -⟩ := cells4F hm
  have hll : l.length = F.L.length := by rw [← hl]; simp
  obtain ⟨a, cap, rfl⟩ := ownsRow_slice hr
  have hmw := ltAt hm
  have hlb : l.length ≤ 1048576 := by omega
  replace hll := hide hll
  have zc := World.alloc_heap_new w (.cells #[.int .i64 0, .int .i64 0, .slice none 0 0, .string ⟨#[]⟩, .string ⟨#[]⟩] 41)
  have hB := box_below w (.cells #[.int .i64 0, .int .i64 0, .slice none 0 0, .string ⟨#[]⟩, .string ⟨#[]⟩] 41)
  obtain ⟨W0, hW0⟩ : ∃ W0, w.alloc (.cells #[.int .i64 0, .int .i64 0, .slice none 0 0, .string ⟨#[]⟩, .string ⟨#[]⟩] 41) = W0 := ⟨_, rfl⟩
  rw [hW0] at zc hB
  have d2 : W0.cell? ⟨m, 2, none⟩ = _ := (World.cell?_of_block (a := ⟨m, 2, none⟩) (hB.block m hmw)).trans c2
  have d3 : W0.cell? ⟨m, 3, none⟩ = _ := (World.cell?_of_block (a := ⟨m, 3, none⟩) (hB.block m hmw)).trans c3
  have hr0 := ownsRow_of_heap (W' := W0) hr fun k e => hB.block k (hr.lt k e).2
  have HW := hide hW0
  have HB := hide hB
  have Zc := hide zc
  have Hr := hide hr0
  have Hn := hide hn
  have Hl := hide hl
  have hres : ∀ (j : Nat) (hj : j < l.length), l[j].r = F.L[j]'(by have := hll.out; omega) := fun j hj => by
    have : (l.map (·.r))[j]'(by simpa using hj) = l[j].r := by simp
    rw [← this]
    congr 1
  have Hres := hide hres
  clear hr hn hl hm hf hW0 hB zc hr0 hres c0 c1 c2 c3
  go_enter Try.func22, Try.ntmps22
  go_wp2_with fail
  rw [HW.out]
  clear HW
  go_loopw [4] (fun i wr => ∃ (k n : Nat), k ≤ l.length ∧ i = .int .i64 (k : Int) ∧ wr = W0.drewN n ∧ ∀ j (hj : j < F.L.length), j < k → F.L[j].seq ≠ F.next) (fun i _ => l.length - (intOf i).toNat)
  case atStart => exact ⟨0, 0, Nat.zero_le _, rfl, rfl, fun j _ h => by omega⟩
  case round =>
    obtain ⟨k, n, hk, rfl, rfl, hall⟩ := hrel
    have Hall := hide hall
    clear hall
    have e2 : (W0.drewN n).cell? ⟨m, 2, none⟩ = some (.int .i64 F.next) := d2
    have e3 : (W0.drewN n).cell? ⟨m, 3, none⟩ = some (.slice a l.length cap) := d3
    by_cases hkl : k < l.length
    · have hI : (k : Int) < (l.length : Int) := by omega
      obtain ⟨g, cap', ev, q0, q1, q2, q3, q4⟩ := row_cells Hr.out k hkl
      simp only [Value.slice.injEq] at ev
      obtain ⟨rfl, -, rfl⟩ := ev
      have hrk := Hres.out k hkl
      have hnk := Hn.out l[k] (List.getElem_mem hkl)
      have hkF : k < F.L.length := by have := hll.out; omega
      obtain ⟨x, hx⟩ : ∃ x, l[k] = x := ⟨_, rfl⟩
      rw [hx] at q0 q1 q2 q3 q4 hrk hnk
      obtain ⟨da, dcap, hda⟩ := hnk.form
      rw [hda] at q2
      obtain ⟨⟨site, seq, dep, key, val⟩, hxr⟩ : ∃ r, x.r = r := ⟨_, rfl⟩
      rw [hxr] at q0 q1 q2 q3 q4 hrk
      have hnk' := hide hnk
      have hda' := hide hda
      have hxr' := hide hxr
      have Hrk := hide hrk
      have hkF' := hide hkF
      clear hx hnk hda hxr hrk hkF
      dsimp only at q0 q1 q2 q3 q4
      by_cases hs : seq = F.next
      · have hsb : (seq == F.next) = true := by simpa using hs
        obtain ⟨z0, z1, z2, z3, z4, g0, g1, g2, g3, g4⟩ := cells5F Zc.out
        have ho2 := first_at k hkF'.out Hall.out (by rw [← Hrk.out]; exact hs)
        rw [← Hrk.out, ho] at ho2
        have Ho := hide ho2
        clear ho ho2
        go_wp2_with fail
        go_quiet (fail)
        go_wp2_with fail
        have e5 := put5_heap (W := W0.drewN (n + nq)) Zc.out (.int .i64 site) (.int .i64 F.next) (.slice da dep.length dcap) (.string key) (.string val)
        have hB5 := put5_below ((HB.out.trans ((drewsB W0 (n + nq)).mono HB.out.size))) (Nat.le_refl _) (.int .i64 site) (.int .i64 F.next) (.slice da dep.length dcap) (.string key) (.string val)
        obtain ⟨W5, hW5⟩ : ∃ W5, put5 (W0.drewN (n + nq)) w.heap.size (.int .i64 site) (.int .i64 F.next) (.slice da dep.length dcap) (.string key) (.string val) = W5 := ⟨_, rfl⟩
        rw [hW5] at e5 hB5
        unfold put5 at hW5
        rw [hW5]
        obtain ⟨k0, k1, k2, k3, k4, -, -, -, -, -⟩ := cells5F e5
        refine bodyPost_ret (v := .tuple #[.agg #[.int .i64 site, .int .i64 F.next, .slice da dep.length dcap, .string key, .string val], .bool true]) (by simp [results, Try.f22, go_sem, k0, k1, k2, k3, k4]) rfl ⟨_, by rw [Ho.out]; rfl, ?_, hB5⟩
        rw [Ho.out]
        have := hnk'.out
        rw [hda'.out, hxr'.out] at this
        exact ⟨da, dcap, by rw [← hs]; rfl, this⟩
      · have hsb : (seq == F.next) = false := by simpa using hs
        go_wp2_with fail
        go_quiet (fail)
        go_wp2_with fail
        refine ⟨⟨k + 1, n + nq, by omega, by go_num, rfl, fun j hj h => ?_⟩, by simp [intOf]; omega⟩
        by_cases e : j = k
        · subst e
          rw [← Hrk.out]
          exact hs
        · exact Hall.out j hj (by omega)
    · have hI : ¬ (k : Int) < (l.length : Int) := by omega
      obtain ⟨z0, z1, z2, z3, z4, g0, g1, g2, g3, g4⟩ := cells5F Zc.out
      have ho2 := first_none (F := F) fun j hj => Hall.out j hj (by have := hll.out; omega)
      rw [ho] at ho2
      have Ho := hide ho2
      clear ho ho2
      go_wp2_with fail
      have e5 := put5_heap (W := W0.drewN n) Zc.out (.int .i64 0) (.int .i64 0) (.slice none 0 0) (.string ⟨#[]⟩) (.string ⟨#[]⟩)
      have hB5 := put5_below ((HB.out.trans ((drewsB W0 n).mono HB.out.size))) (Nat.le_refl _) (.int .i64 0) (.int .i64 0) (.slice none 0 0) (.string ⟨#[]⟩) (.string ⟨#[]⟩)
      obtain ⟨W5, hW5⟩ : ∃ W5, put5 (W0.drewN n) w.heap.size (.int .i64 0) (.int .i64 0) (.slice none 0 0) (.string ⟨#[]⟩) (.string ⟨#[]⟩) = W5 := ⟨_, rfl⟩
      rw [hW5] at e5 hB5
      unfold put5 at hW5
      rw [hW5]
      obtain ⟨k0, k1, k2, k3, k4, -, -, -, -, -⟩ := cells5F e5
      refine bodyPost_ret (v := .tuple #[.agg #[.int .i64 0, .int .i64 0, .slice none 0 0, .string ⟨#[]⟩, .string ⟨#[]⟩], .bool false]) (by simp [results, Try.f22, go_sem, k0, k1, k2, k3, k4]) rfl ⟨_, by rw [Ho.out]; rfl, ?_, hB5⟩
      rw [Ho.out]
      exact ⟨none, 0, rfl, IsNums.of_row (World.ownsRow_nil _ 0 3 1)⟩

end Go.Proofs.Ytompaldhnbcikaa

/- The reference's filters: Reset, Put. Own work; no statement. -/
set_option linter.unusedSimpArgs false
set_option linter.unusedVariables false
namespace Go.Proofs.Ytompaldhnbcikaa
open Go.RowKit Go.Shelf Go.Sort

theorem only_below {B m : Nat} {w w' : World} (h : Touch (fun k => k = m) w w') (hB : B ≤ w.heap.size) (hm : B ≤ m) : RowKit.Below B w w' := h.below hB fun k _ e => by omega

theorem Try.info41 : (Try.prog.info? 41).map (fun i => (i.zero, i.size, i.bytes)) = some (some (.agg #[.int .i64 0, .int .i64 0, .slice none 0 0, .string ⟨#[]⟩, .string ⟨#[]⟩]), 5, 72) := by kernel_rfl

/-- What lies where a slice says, nil too. -/
def SrcF (w : World) (vx : Value) (m : Nat) (news : List Value) : Prop := (vx = .slice none 0 0 ∧ m = 0 ∧ news = []) ∨ ∃ ad c, vx = .slice (some ad) m c ∧ ∀ j u, news[j]? = some u → w.cell? (ad.add j) = some u
/-- append to a row of one's own, of a slice that may be nil, as a step of a region that draws. -/
theorem step_app_src {P : Program} {ops : Array Oper} {o : Oper} {a : Act} {w : World} {K : Act → World → Prop} {Q : Exit → Act → World → Prop} {E : Prop} (hg : o.guard = none) (s x : Operand) (t : TypeId) (hop : o.op = Op.call { callee := Callee.builtin Builtin.append, args := #[s, x], argTypes := #[t, t] })
    (base : Nat) (e : TypeId) (i : TypeInfo) (z : Value) (size bytes : Nat) (h1 : P.underlying t = some (.slice e)) (h2 : P.info? e = some i) (h3 : i.zero = some z) (h4 : i.size = size) (h5 : i.bytes = bytes) (h6 : z.cells.size = size) (h7 : 0 < size)
    (v : Value) (n : Nat) (xs : List Value) (hs : a.eval s = v) (hown : w.ownsRow base e size v n xs) (vx : Value) (m : Nat) (news : List Value) (hx : a.eval x = vx) (hsrc : SrcF w vx m news) (hn : news.length = m * size) (h1c : ∀ u ∈ news, u.oneCell' = true)
    (b1 : n + m ≤ maxLen) (b2 : (n + m) * bytes ≤ 140737488355328) (hb : base ≤ w.heap.size)
    (hK : ∀ v' w', w'.ownsRow base e size v' (n + m) (xs ++ news) → w.grownBy w' v.ownBlock → K (a.put o.dst v') w') : if Region.wanted o (yielded ops a.tmps) = true then Oper.wp P o a w K Q else E := by
  rcases hsrc with ⟨rfl, rfl, rfl⟩ | ⟨ad, c, rfl, hc⟩
  · rw [if_pos (by simp [Region.wanted, hg])]
    have hrun := run_append_owned_none (P := P) (w := w) base t o.type e i size h1 h2 v n xs hown
    unfold Oper.wp
    simp [execOp, hop, resolve, invoke, builtin, hs, hx, hrun, Result.andThen]
    exact hK _ _ (by rw [List.append_nil]; exact hown) (World.grownBy.refl _ _)
  · exact step_append hg s x t hop base e i z size bytes h1 h2 h3 h4 h5 h6 h7 v n xs hs hown ad m c news hx hn hc h1c b1 b2 hb hK

set_option maxHeartbeats 1000000 in
theorem refReset7_calls (w0 : World) (B m : Nat) (F : FilD) (n c : Int) (G : FilD) (hc : resetE n = c) (hG : resetF F n = G) (w : World) (hf : IsRF w0 w B m F) :
    Calls Try.prog 19 #[.pointer (some ⟨m, 0, none⟩), .int .i64 n] w fun e w' => e = .returned (.int .i64 c) ∧ IsRF w0 w' B m G ∧ Touch (fun k => k = m) w w' := by
  obtain ⟨v, l, hl, hm, hr, hn⟩ := hf.val
  obtain ⟨c0, c1, c2, c3, f0, f1, f2, f3⟩ := cells4F hm
  have hlow := hf.low
  have HF := hide hf
  obtain ⟨a, cap, rfl⟩ := ownsRow_slice hr
  have Hm := hide hm
  clear hf hl hr hn hm
  by_cases h1 : n < 1
  · obtain ⟨e1, e2⟩ := resetF_no F (n := n) (by omega)
    rw [e1] at hc
    rw [e2] at hG
    subst hc
    subst hG
    clear e1 e2
    go_enter Try.func19, Try.ntmps19
    go_wp2
    go_ret
    exact ⟨rfl, HF.out, Touch.refl _ _⟩
  by_cases h2 : 1048577 < n
  · obtain ⟨e1, e2⟩ := resetF_no F (n := n) (by omega)
    rw [e1] at hc
    rw [e2] at hG
    subst hc
    subst hG
    clear e1 e2
    go_enter Try.func19, Try.ntmps19
    go_wp2
    go_ret
    exact ⟨rfl, HF.out, Touch.refl _ _⟩
  obtain ⟨e1, e2⟩ := resetF_yes F (n := n) (by omega)
  rw [e1] at hc
  rw [e2] at hG
  have HG := hide hG
  subst hc
  clear e1 e2 hG
  go_enter Try.func19, Try.ntmps19
  go_wp2
  go_ret
  refine ⟨rfl, ⟨hlow, .slice none 0 0, [], by rw [← HG.out]; rfl, ?_, World.ownsRow_nil _ _ _ _, fun q hq => by cases hq⟩, ((Touch.refl (fun k => k = m) w).set _ _ rfl).set _ _ rfl⟩
  rw [← HG.out]
  have := setAt (j := 2) (setAt (j := 3) Hm.out (.slice none 0 0)) (.int .i64 n)
  simpa using this

theorem putR_end {w0 w2 : World} {B m n : Nat} {F : FilD} {l : List Pl} {r : RecD} {vd u : Value} {b2 : Option Addr} {cap2 : Nat} (hlow : B ≤ m) (hl : l.map (·.r) = F.L) (hm : m < n) (hm2 : w2.heap[m]? = some (.cells #[.int .i64 F.site, .int .i64 F.room, .int .i64 F.next, u] 58 (0, 0))) (hown : w2.ownsRow n 41 5 (.slice b2 (l.length + 1) cap2) (l.length + 1) (l.flatMap Pl.cells5 ++ [.int .i64 r.site, .int .i64 r.seq, vd, .string r.key, .string r.val])) (hn : ∀ q ∈ l, IsNums .i64 w0 q.vd q.r.dep) (hr : IsNums .i64 w0 vd r.dep) :
    IsRF w0 (w2.setCell ⟨m, 3, none⟩ (.slice b2 (l.length + 1) cap2)) B m ⟨F.site, F.room, F.next, F.L ++ [r]⟩ := by
  have h : w2.ownsRow B 41 5 (.slice b2 (l.length + 1) cap2) (l ++ [(⟨0, r, vd⟩ : Pl)]).length ((l ++ [(⟨0, r, vd⟩ : Pl)]).flatMap Pl.cells5) := by
    rw [List.length_append, List.flatMap_append]
    exact ⟨hown.1, hown.2.imp id fun ⟨g, cap, cur, e, hg, h⟩ => ⟨g, cap, cur, e, by omega, h⟩⟩
  refine ⟨hlow, .slice b2 (l.length + 1) cap2, l ++ [⟨0, r, vd⟩], by simp [hl], ?_, ownsRow_of_heap h fun k e => ?_, fun q hq => ?_⟩
  · have := setAt (j := 3) hm2 (.slice b2 (l.length + 1) cap2)
    simpa using this
  · have hk := (hown.lt k e).1
    exact RowKit.Below.heap_setCell _ _ _ _ (by show k ≠ m; omega)
  · rcases List.mem_append.1 hq with hq | hq
    · exact hn q hq
    · obtain rfl := List.mem_singleton.1 hq
      exact hr

set_option maxHeartbeats 4000000 in
set_option maxRecDepth 100000 in
theorem refPut7_calls (w0 : World) (B m : Nat) (F : FilD) (v : Value) (r : RecD) (c : Int) (G : FilD) (hc : putE F r = c) (hG : putF F r = G) (w : World) (hf : IsRF w0 w B m F) (hok : F.ok) (hb0 : RowKit.Below w0.heap.size w0 w) (hB : B ≤ w.heap.size) (hv : IsRec w0 v r) (hl : r.dep.length ≤ 70) (hk : r.key.size ≤ 50) (hvl : r.val.size ≤ 50) (hlen : F.L.length ≤ 64) :
    Calls Try.prog 13 #[.pointer (some ⟨m, 0, none⟩), v] w fun e w' => e = .returned (.int .i64 c) ∧ IsRF w0 w' B m G ∧ Touch (fun k => k = m) w w' := by
  have hb1 := hok.next0
  have hb2 := hok.next1
  have hb3 := hok.room0
  have hb4 := hok.room1
  have C := hide (fun w hv => refCheckRec_calls v r 8 w hv (by omega) (by omega) (by omega))
  have HV := hide hv
  have HF := hide hf
  obtain ⟨site, seq, dep, key, val⟩ := r
  obtain ⟨a, cap, rfl, hn⟩ := hv
  dsimp only at *
  have HE := hide hc
  unfold putE at hc
  dsimp only at hc
  have hsite : checkR ⟨site, seq, dep, key, val⟩ 8 = 0 → 1 ≤ seq ∧ seq ≤ 1048576 := fun h => ⟨(good_of h).2.2.1, (good_of h).2.2.2.1⟩
  obtain ⟨q, hq⟩ : ∃ q, checkR ⟨site, seq, dep, key, val⟩ 8 = q := ⟨_, rfl⟩
  rw [hq] at hc C hsite
  replace hsite := hide hsite
  replace hG := hide hG
  replace hq := hide hq
  replace HN := hide hn
  clear hn hf hok
  have hob0 := box_below w (.cells #[.int .i64 site, .int .i64 seq, .slice a dep.length cap, .string key, .string val] 41)
  have e0 := World.alloc_heap_new w (.cells #[.int .i64 site, .int .i64 seq, .slice a dep.length cap, .string key, .string val] 41)
  obtain ⟨W0, hW0⟩ : ∃ W0, w.alloc (.cells #[.int .i64 site, .int .i64 seq, .slice a dep.length cap, .string key, .string val] 41) = W0 := ⟨_, rfl⟩
  rw [hW0] at hob0 e0
  have hb0' := hide hob0
  have E0 := hide e0
  have HW := hide hW0
  clear hW0 hob0 e0
  have hend : ∀ w', RowKit.Below w.heap.size w w' → G = F → IsRF w0 w' B m G ∧ Touch (fun k => k = m) w w' := fun w' h1 h2 => ⟨by rw [h2]; exact HF.out.below h1, touch_new h1⟩
  replace hend := hide hend
  have HV0 := hide (HV.out.below (hb0.trans (hb0'.out.mono hb0.size)))
  by_cases h0 : q = 0
  case neg =>
    rw [if_neg h0] at hc
    subst hc
    have hGF := hide (hG.out.symm.trans (putF_no HE.out h0))
    go_enter Try.func13, Try.ntmps13
    go_wp2_with fail
    rw [HW.out]
    refine (C.out _ HV0.out).mono ?_
    rintro e w1 ⟨rfl, hw1⟩
    go_wp2_with fail
    go_ret
    exact ⟨rfl, hend.out _ (hb0'.out.trans (hw1.mono hb0'.out.size)) hGF.out⟩
  subst h0
  rw [if_pos rfl] at hc
  by_cases h1 : site = F.site
  case neg =>
    rw [if_neg h1] at hc
    subst hc
    have hGF := hide (hG.out.symm.trans (putF_no HE.out (by decide)))
    go_enter Try.func13, Try.ntmps13
    go_wp2_with fail
    rw [HW.out]
    refine (C.out _ HV0.out).mono ?_
    rintro e w1 ⟨rfl, hw1⟩
    obtain ⟨rv, l1, -, hm1, -, -⟩ := (HF.out.below (hb0'.out.trans (hw1.mono hb0'.out.size))).val
    obtain ⟨c0, c1, c2, c3, -, -, -, -⟩ := cells4F hm1
    obtain ⟨x0, x1, x2, x3, x4, -, -, -, -, -⟩ := cells5F (keepB E0.out hw1)
    have hne : (site == F.site) = false := beq_eq_false_iff_ne.2 h1
    go_wp2_with fail
    go_quiet (fail)
    go_wp2_with fail
    go_ret
    exact ⟨rfl, hend.out _ (hb0'.out.trans ((hw1.trans ((drewsB w1 _).mono hw1.size)).mono hb0'.out.size)) hGF.out⟩
  subst h1
  rw [if_pos rfl] at hc
  go_enter Try.func13, Try.ntmps13
  go_wp2_with fail
  rw [HW.out]
  refine (C.out _ HV0.out).mono ?_
  rintro e w1 ⟨rfl, hw1⟩
  have hB1 := hb0'.out.trans (hw1.mono hb0'.out.size)
  have hf1 := HF.out.below hB1
  obtain ⟨rv, l, hl1, hm1, hr1, hn1⟩ := hf1.val
  obtain ⟨la, lc, rfl⟩ := ownsRow_slice hr1
  obtain ⟨c0, c1, c2, c3, fz0, fz1, fz2, fz3⟩ := cells4F hm1
  have E1 := hide (keepB E0.out hw1)
  obtain ⟨x0, x1, x2, x3, x4, -, -, -, -, -⟩ := cells5F E1.out
  have hll : l.length = F.L.length := by rw [← hl1]; simp
  have hlb : l.length ≤ 64 := by omega
  have hres : ∀ (j : Nat) (hj : j < l.length) (hj' : j < F.L.length), l[j].r = F.L[j] := fun j hj hj' => by
    have : (l.map (·.r))[j]'(by simpa using hj) = l[j].r := by simp
    rw [← this]
    congr 1
  have Hll := hide hll
  have Hres := hide hres
  have Hf1 := hide hf1
  have HB1 := hide hB1
  have Hl1 := hide hl1
  have Hm1 := hide hm1
  have Hr1 := hide hr1
  have Hn1 := hide hn1
  clear hll hres hf1 hB1 hl1 hm1 hr1 hn1 hb0' HW C HV0 E0 hw1
  go_wp2_with fail
  go_quiet (fail)
  go_wp2_with fail
  have hB2 := hide (HB1.out.trans ((drewsB w1 nq).mono HB1.out.size))
  have hobn : ∀ k : Nat, (w1.drewN nq).heap[k]? = w1.heap[k]? := fun _ => rfl
  replace Hm1 := hide ((hobn m).trans Hm1.out)
  replace E1 := hide ((hobn w.heap.size).trans E1.out)
  replace Hr1 := hide (ownsRow_of_heap (W' := w1.drewN nq) Hr1.out fun k _ => hobn k)
  generalize w1.drewN nq = W2 at *
  clear Hf1 HB1 hobn c0 c1 c2 c3 fz0 fz1 fz2 fz3 x0 x1 x2 x3 x4
  obtain ⟨c0, c1, c2, c3, fz0, fz1, fz2, fz3⟩ := cells4F Hm1.out
  obtain ⟨x0, x1, x2, x3, x4, -, -, -, -, -⟩ := cells5F E1.out
  go_loopw [6] (fun i wr => ∃ (k n : Nat), k ≤ l.length ∧ i = .int .i64 (k : Int) ∧ wr = W2.drewN n ∧ ∀ j (hj : j < F.L.length), j < k → F.L[j].seq ≠ seq) (fun i _ => l.length - (intOf i).toNat)
  case atStart => exact ⟨0, 0, Nat.zero_le _, rfl, rfl, fun j _ h => by omega⟩
  case round =>
    obtain ⟨k, n, hk, rfl, rfl, hall⟩ := hrel
    have Hall := hide hall
    clear hall
    by_cases hkl : k < l.length
    · have hI : (k : Int) < (l.length : Int) := by omega
      obtain ⟨g, cap', ev, q0, q1, q2, q3, q4⟩ := row_cells Hr1.out k hkl
      simp only [Value.slice.injEq] at ev
      obtain ⟨rfl, -, rfl⟩ := ev
      have hkF : k < F.L.length := by have := Hll.out; omega
      have hrk := Hres.out k hkl hkF
      obtain ⟨x, hx⟩ : ∃ x, l[k] = x := ⟨_, rfl⟩
      rw [hx] at q1 hrk
      obtain ⟨sq, hsq⟩ : ∃ r, x.r.seq = r := ⟨_, rfl⟩
      rw [hsq] at q1
      have hFk : F.L[k].seq = sq := by rw [← hrk, hsq]
      have hFk' := hide hFk
      clear hx q0 q2 q3 q4 hrk hsq hFk
      by_cases hs : sq = seq
      · have hsb : (sq == seq) = true := by simpa using hs
        have hany : (F.L.any fun x => decide (x.seq = seq)) = true := by
          rw [List.any_eq_true]
          exact ⟨F.L[k], List.getElem_mem hkF, by simpa using hFk'.out.trans hs⟩
        rw [hany, if_pos (by simp)] at hc
        subst hc
        have hGF := hide (hG.out.symm.trans (putF_no HE.out (by decide)))
        clear hany
        go_wp2_with fail
        go_quiet (fail)
        go_wp2_with fail
        go_ret
        refine ⟨rfl, ?_⟩
        refine hend.out _ ?_ hGF.out
        exact hB2.out.trans ⟨rfl, rfl, rfl, Nat.le_refl _, fun _ _ => rfl⟩
      · have hsb : (sq == seq) = false := by simpa using hs
        go_wp2_with fail
        go_quiet (fail)
        go_wp2_with fail
        refine ⟨⟨k + 1, n + nq, by omega, by go_num, rfl, fun j hj h => ?_⟩, by simp [intOf]; omega⟩
        by_cases e : j = k
        · subst e
          rw [hFk'.out]
          exact hs
        · exact Hall.out j hj (by omega)
    · have hI : ¬ (k : Int) < (l.length : Int) := by omega
      have hany : (F.L.any fun x => decide (x.seq = seq)) = false := by
        rw [List.any_eq_false]
        intro x hx
        obtain ⟨j, hj, rfl⟩ := List.getElem_of_mem hx
        simpa using Hall.out j hj (by have := Hll.out; omega)
      rw [hany, Bool.false_or] at hc
      clear hany
      by_cases hlt : seq < F.next
      · rw [if_pos (by simpa using hlt)] at hc
        subst hc
        have hGF := hide (hG.out.symm.trans (putF_no HE.out (by decide)))
        go_wp2_with fail
        go_quiet (fail)
        go_wp2_with fail
        go_ret
        refine ⟨rfl, ?_⟩
        refine hend.out _ ?_ hGF.out
        exact hB2.out.trans ⟨rfl, rfl, rfl, Nat.le_refl _, fun _ _ => rfl⟩
      · rw [if_neg (by simpa using hlt)] at hc
        by_cases hge : F.next + F.room ≤ seq
        · rw [if_pos hge] at hc
          subst hc
          have hGF := hide (hG.out.symm.trans (putF_no HE.out (by decide)))
          go_wp2_with fail
          go_quiet (fail)
          go_wp2_with fail
          go_quiet (fail)
          go_wp2_with fail
          go_ret
          refine ⟨rfl, ?_⟩
          refine hend.out _ ?_ hGF.out
          exact hB2.out.trans ⟨rfl, rfl, rfl, Nat.le_refl _, fun _ _ => rfl⟩
        · rw [if_neg hge] at hc
          subst hc
          have hGP : G = ⟨F.site, F.room, F.next, F.L ++ [⟨F.site, seq, dep, key, val⟩]⟩ := by
            rw [← hG.out]
            unfold putF
            rw [HE.out, if_pos rfl]
          go_wp2_with fail
          go_quiet (fail)
          revert nq
          intro nq0
          go_wp2_with fail
          go_quiet (fail)
          go_wp2_with fail
          obtain ⟨i0, hi0, hz0, hz1, hz2⟩ := info_parts Try.info41
          have hX : ∃ X, (∀ k : Nat, X.heap[k]? = W2.heap[k]?) ∧ RowKit.Below W2.heap.size W2 X ∧ X = ((W2.drewN n).drewN nq0).drewN nq := ⟨((W2.drewN n).drewN nq0).drewN nq, fun _ => rfl, ⟨rfl, rfl, rfl, Nat.le_refl _, fun _ _ => rfl⟩, rfl⟩
          obtain ⟨W4, hX1, hX2, hX3⟩ := hX
          rw [← hX3]
          have Hm4 := hide ((hX1 m).trans Hm1.out)
          have E4 := hide ((hX1 w.heap.size).trans E1.out)
          have Hr4 := hide (ownsRow_of_heap (W' := W4) Hr1.out fun k _ => hX1 k)
          have HB4 := hide (hB2.out.trans (hX2.mono hB2.out.size))
          clear hX1 hX2 hX3 Hm1 E1 Hr1 hB2 c0 c1 c2 c3 fz0 fz1 fz2 fz3 x0 x1 x2 x3 x4 hend
          have hd : ∀ k : Nat, W4.drew.heap[k]? = W4.heap[k]? := fun _ => rfl
          have Hm5 := hide ((hd m).trans Hm4.out)
          have E5 := hide ((hd w.heap.size).trans E4.out)
          obtain ⟨c0, c1, c2, c3, fz0, fz1, fz2, fz3⟩ := cells4F Hm5.out
          obtain ⟨x0, x1, x2, x3, x4, -, -, -, -, -⟩ := cells5F E5.out
          have hmW := ltAt Hm4.out
          have hwW := ltAt E4.out
          have P1 : RowKit.Below W4.heap.size W4 (W4.alloc (Obj.cells #[] 41)) := (RowKit.Below.refl _ W4).alloc (Nat.le_refl _) _
          have P2 : RowKit.Below W4.heap.size W4 ((W4.alloc (Obj.cells #[] 41)).alloc (Obj.cells #[.int .i64 F.site, .int .i64 seq, .slice a dep.length cap, .string key, .string val] 41)) := P1.alloc P1.size _
          have P3 : RowKit.Below W4.heap.size W4 ((W4.alloc (Obj.cells #[.int .i64 F.site, .int .i64 seq, .slice a dep.length cap, .string key, .string val] 41)).alloc (Obj.cells #[] 41)) := ((RowKit.Below.refl _ W4).alloc (Nat.le_refl _) _).alloc (by simp) _
          have P4 : RowKit.Below W4.heap.size W4 (W4.alloc (Obj.cells #[.int .i64 F.site, .int .i64 seq, .slice a dep.length cap, .string key, .string val] 41)) := (RowKit.Below.refl _ W4).alloc (Nat.le_refl _) _
          have O1 : (W4.alloc (Obj.cells #[] 41)).ownsRow W4.heap.size 41 5 (.slice (some ⟨W4.heap.size, 0, none⟩) 0 0) 0 [] := World.ownsRow_lit W4 #[] 0 (Nat.le_refl _) (by unfold maxLen; omega) rfl
          have O2 : ((W4.alloc (Obj.cells #[] 41)).alloc (Obj.cells #[.int .i64 F.site, .int .i64 seq, .slice a dep.length cap, .string key, .string val] 41)).ownsRow W4.heap.size 41 5 (.slice (some ⟨W4.heap.size, 0, none⟩) 0 0) 0 [] := O1.alloc _
          have O3 : ((W4.alloc (Obj.cells #[.int .i64 F.site, .int .i64 seq, .slice a dep.length cap, .string key, .string val] 41)).alloc (Obj.cells #[] 41)).ownsRow W4.heap.size 41 5 (.slice (some ⟨W4.heap.size + 1, 0, none⟩) 0 0) 0 [] := by
            have := World.ownsRow_lit (e := 41) (size := 5) (base := W4.heap.size) (W4.alloc (Obj.cells #[.int .i64 F.site, .int .i64 seq, .slice a dep.length cap, .string key, .string val] 41)) #[] 0 (by simp) (by unfold maxLen; omega) rfl
            simpa using this
          have hsrc : ∀ X, RowKit.Below W4.heap.size W4 X → SrcF X (.slice la l.length lc) l.length (l.flatMap Pl.cells5) := fun X hXb => by
            have hr := ownsRow_of_heap (W' := X) Hr4.out fun k e => hXb.block k (Hr4.out.lt k e).2
            rcases hr.2 with ⟨e, h0⟩ | ⟨g', cap', cur, e, -⟩
            · refine .inl ⟨e, h0, ?_⟩
              rw [List.eq_nil_of_length_eq_zero h0]
              rfl
            · simp only [Value.slice.injEq] at e
              obtain ⟨rfl, -, rfl⟩ := e
              refine .inr ⟨⟨g', 0, none⟩, lc, rfl, fun j u hu => ?_⟩
              have hadd : (⟨g', 0, none⟩ : Addr).add j = ⟨g', j, none⟩ := by unfold Addr.add; split <;> simp_all
              have hjl : j < l.length * 5 := by
                have := (List.getElem?_eq_some_iff.1 hu).1
                rw [hr.1] at this
                exact this
              rw [hadd, hr.cellAt j hjl, hu]
          have hone : ∀ u ∈ l.flatMap Pl.cells5, u.oneCell' = true := by
            intro u hu
            obtain ⟨x, hx, hux⟩ := List.mem_flatMap.1 hu
            obtain ⟨xa, xc, hxd⟩ := (Hn1.out x hx).form
            exact five_one hxd u hux
          have hl5 : (l.flatMap Pl.cells5).length = l.length * 5 := Hr4.out.1
          have a1 := fun o => Lib.cell?_alloc_some (W := W4) o c3
          have a2 := fun o o' => Lib.cell?_alloc_some (W := W4.alloc o) o' (Lib.cell?_alloc_some (W := W4) o c3)
          have y0 := fun o => Lib.cell?_alloc_some (W := W4) o x0
          have y1 := fun o => Lib.cell?_alloc_some (W := W4) o x1
          have y2 := fun o => Lib.cell?_alloc_some (W := W4) o x2
          have y3 := fun o => Lib.cell?_alloc_some (W := W4) o x3
          have y4 := fun o => Lib.cell?_alloc_some (W := W4) o x4
          replace P1 := hide P1
          replace P2 := hide P2
          replace P3 := hide P3
          replace P4 := hide P4
          replace O1 := hide O1
          replace O2 := hide O2
          replace O3 := hide O3
          replace hsrc := hide hsrc
          replace hone := hide hone
          replace hl5 := hide hl5
          have hfive : ∀ u ∈ [Value.int .i64 F.site, .int .i64 seq, .slice a dep.length cap, .string key, .string val], u.oneCell' = true := by
            intro u hu
            simp at hu
            rcases hu with rfl | rfl | rfl | rfl | rfl <;> rfl
          replace hfive := hide hfive
          have hM4 := ltAt Hm4.out
          have T1 : Hid (((W4.alloc (Obj.cells #[] 41)).alloc (Obj.cells #[.int .i64 F.site, .int .i64 seq, .slice a dep.length cap, .string key, .string val] 41)).heap[W4.heap.size + 1]? = some (Obj.cells #[.int .i64 F.site, .int .i64 seq, .slice a dep.length cap, .string key, .string val] 41)) := hide (by
            have h := World.alloc_heap_new (W4.alloc (Obj.cells #[] 41)) (Obj.cells #[.int .i64 F.site, .int .i64 seq, .slice a dep.length cap, .string key, .string val] 41)
            have e : (W4.alloc (Obj.cells #[] 41)).heap.size = W4.heap.size + 1 := by simp
            rw [e] at h
            exact h)
          go_region_law (first
            | (refine step_app_src rfl (.tmp 59) (.tmp 63) 46 rfl W4.heap.size 41 i0 _ 5 72 Try.underlying46 hi0 hz0 hz1 hz2 rfl (by decide) _ 0 [] rfl (by first | exact O1.out | exact O2.out | exact O3.out) _ l.length (l.flatMap Pl.cells5) rfl (by first | exact hsrc.out _ P1.out.drew | exact hsrc.out _ P2.out.drew | exact hsrc.out _ P3.out.drew) hl5.out hone.out (by unfold maxLen; omega) (by omega) (by first | (simp; done) | (simp; omega)) ?_; intro v1 w1 hown1 hgrow1
               have hown1' : Hid (w1.ownsRow W4.heap.size 41 5 v1 l.length (l.flatMap Pl.cells5)) := hide (by simpa using hown1)
               have q1 : Hid (RowKit.Below W4.heap.size W4 w1) := hide (by first | exact P1.out.drew.grown hgrow1 (by first | (simp; done) | (simp; omega)) (fun j hj => (O1.out.lt j hj).1) | exact P2.out.drew.grown hgrow1 (by first | (simp; done) | (simp; omega)) (fun j hj => (O2.out.lt j hj).1) | exact P3.out.drew.grown hgrow1 (by first | (simp; done) | (simp; omega)) (fun j hj => (O3.out.lt j hj).1))
               have hgrow1' := hide hgrow1
               obtain ⟨x0, x1, x2, x3, x4, -, -, -, -, -⟩ := cells5F ((q1.out.block _ hwW).trans E4.out)
               have c3 := (World.cell?_of_block (a := ⟨m, 3, none⟩) (q1.out.block m hM4)).trans c3
               clear hown1 hgrow1)
            | (refine step_app_src rfl (.tmp 64) (.tmp 66) 46 rfl W4.heap.size 41 i0 _ 5 72 Try.underlying46 hi0 hz0 hz1 hz2 rfl (by decide) _ l.length (l.flatMap Pl.cells5) rfl (by first | exact hown1'.out | exact hown1'.out.alloc _) _ 1 [Value.int .i64 F.site, .int .i64 seq, .slice a dep.length cap, .string key, .string val] rfl (by first | exact .inr ⟨⟨w1.heap.size, 0, none⟩, 1, rfl, World.news_of_block (cs := #[Value.int .i64 F.site, .int .i64 seq, .slice a dep.length cap, .string key, .string val]) (t := 41) (fr := (0, 0)) (World.alloc_heap_new w1 _)⟩ | exact .inr ⟨⟨W4.heap.size, 0, none⟩, 1, rfl, World.news_of_block (cs := #[Value.int .i64 F.site, .int .i64 seq, .slice a dep.length cap, .string key, .string val]) (t := 41) (fr := (0, 0)) ((hgrow1'.out.block _ (by first | (simp; done) | (simp; omega)) (show some W4.heap.size ≠ some (W4.heap.size + 1) by simp)).trans ((Below.heap_alloc _ _ _ (by simp)).trans (World.alloc_heap_new W4 (Obj.cells #[.int .i64 F.site, .int .i64 seq, .slice a dep.length cap, .string key, .string val] 41))))⟩ | exact .inr ⟨⟨W4.heap.size + 1, 0, none⟩, 1, rfl, World.news_of_block (cs := #[Value.int .i64 F.site, .int .i64 seq, .slice a dep.length cap, .string key, .string val]) (t := 41) (fr := (0, 0)) ((hgrow1'.out.block _ (by first | (simp; done) | (simp; omega)) (show some (W4.heap.size + 1) ≠ some W4.heap.size by simp)).trans T1.out)⟩) rfl hfive.out (by unfold maxLen; omega) (by omega) (by have := q1.out.size; first | exact this | (simp; omega)) ?_; intro v2 w2 hown2 hgrow2
               have r1 : Hid (RowKit.Below W4.heap.size W4 w2) := hide (by first | exact (q1.out.alloc q1.out.size _).grown hgrow2 (by have := q1.out.size; simp; omega) (fun j hj => (hown1'.out.lt j hj).1) | exact q1.out.grown hgrow2 q1.out.size (fun j hj => (hown1'.out.lt j hj).1))
               obtain ⟨b2, cap2, rfl⟩ := ownsRow_slice hown2
               have hown2' := hide hown2
               have hm2 := hide ((r1.out.block m hM4).trans Hm4.out)
               obtain ⟨k0, k1, k2, k3, -, -, -, kf3⟩ := cells4F hm2.out
               clear hown2 hgrow2))
          all_goals
            go_wp2
            go_ret
            rw [hGP]
            exact ⟨rfl, putR_end HF.out.low Hl1.out hM4 hm2.out hown2'.out Hn1.out HN.out, (touch_new (HB4.out.trans (r1.out.mono HB4.out.size))).set _ _ rfl⟩

end Go.Proofs.Ytompaldhnbcikaa

/- The reference's filters: Take. Own work; no statement. -/
set_option linter.unusedSimpArgs false
set_option linter.unusedVariables false
namespace Go.Proofs.Ytompaldhnbcikaa
open Go.RowKit Go.Shelf Go.Sort

theorem refTake7_none (w0 : World) (B m : Nat) (F : FilD) (ho : firstF F = none) (w : World) (hf : IsRF w0 w B m F) (hlen : F.L.length ≤ 1048576) :
    Calls Try.prog 16 #[.pointer (some ⟨m, 0, none⟩)] w fun e w' => ∃ v, e = .returned (.tuple #[v, .bool false]) ∧ IsRec w0 v zeroR ∧ RowKit.Below w.heap.size w w' := by
  have zc := World.alloc_heap_new w (.cells #[.int .i64 0, .int .i64 0, .slice none 0 0, .string ⟨#[]⟩, .string ⟨#[]⟩] 41)
  have hB0 := box_below w (.cells #[.int .i64 0, .int .i64 0, .slice none 0 0, .string ⟨#[]⟩, .string ⟨#[]⟩] 41)
  obtain ⟨W0, hW0⟩ : ∃ W0, w.alloc (.cells #[.int .i64 0, .int .i64 0, .slice none 0 0, .string ⟨#[]⟩, .string ⟨#[]⟩] 41) = W0 := ⟨_, rfl⟩
  rw [hW0] at zc hB0
  have HW := hide hW0
  have HB0 := hide hB0
  have Zc := hide zc
  have hf0 := hide (hf.below hB0)
  clear hW0 zc hB0
  go_enter Try.func16, Try.ntmps16
  go_wp2_with fail
  rw [HW.out]
  refine (refFirst7_calls w0 B m F _ rfl W0 hf0.out (by omega)).mono ?_
  rintro e w1 ⟨v, rfl, hv, hb⟩
  rw [ho] at hv ⊢
  have Hv := hide hv
  obtain ⟨⟨site, seq, dep, key, val⟩, hr0⟩ : ∃ r, (none.getD zeroR : RecD) = r := ⟨_, rfl⟩
  have Hr0 := hide hr0
  rw [hr0] at hv
  obtain ⟨a, cap, rfl, -⟩ := hv
  rw [hr0] at Hv
  dsimp only at Hv ⊢
  clear hr0
  have hb1 := box_below w1 (.cells #[.int .i64 site, .int .i64 seq, .slice a dep.length cap, .string key, .string val] 41)
  have Zc1 := hide (keepB (keepB Zc.out hb) hb1)
  have Xc1 := hide (World.alloc_heap_new w1 (.cells #[.int .i64 site, .int .i64 seq, .slice a dep.length cap, .string key, .string val] 41))
  obtain ⟨z0, z1, z2, z3, z4, g0, g1, g2, g3, g4⟩ := cells5F Zc1.out
  obtain ⟨x0, x1, x2, x3, x4, h0, h1, h2, h3, h4⟩ := cells5F Xc1.out
  have Hb1 := hide hb1
  clear hb1
  go_wp2_with fail
  have hB2 := hide (HB0.out.trans ((hb.trans (Hb1.out.mono hb.size)).mono HB0.out.size))
  have e5 := put5_heap Zc1.out (.int .i64 site) (.int .i64 seq) (.slice a dep.length cap) (.string key) (.string val)
  have hB5 := put5_below hB2.out (Nat.le_refl _) (.int .i64 site) (.int .i64 seq) (.slice a dep.length cap) (.string key) (.string val)
  obtain ⟨W5, hW5⟩ : ∃ W5, put5 (w1.alloc (.cells #[.int .i64 site, .int .i64 seq, .slice a dep.length cap, .string key, .string val] 41)) w.heap.size (.int .i64 site) (.int .i64 seq) (.slice a dep.length cap) (.string key) (.string val) = W5 := ⟨_, rfl⟩
  rw [hW5] at e5 hB5
  unfold put5 at hW5
  rw [hW5]
  obtain ⟨k0, k1, k2, k3, k4, -, -, -, -, -⟩ := cells5F e5
  exact bodyPost_ret (v := .tuple #[.agg #[.int .i64 site, .int .i64 seq, .slice a dep.length cap, .string key, .string val], .bool false]) (by simp [results, Try.f16, go_sem, k0, k1, k2, k3, k4]) rfl ⟨_, rfl, by have := Hv.out; rw [← Hr0.out] at this; exact this, hB5⟩

/-- The records to be kept among the first k. -/
def keptP (next : Int) (l : List Pl) (k : Nat) : List Pl := (l.take k).filter fun q => decide (q.r.seq ≠ next)
theorem keptP_zero (next : Int) (l : List Pl) : keptP next l 0 = [] := rfl
theorem keptP_no {next : Int} {l : List Pl} {k : Nat} (hk : k < l.length) (h : l[k].r.seq = next) : keptP next l (k + 1) = keptP next l k := by
  unfold keptP
  rw [List.take_succ_eq_append_getElem hk, List.filter_append]
  simp [h]
theorem keptP_yes {next : Int} {l : List Pl} {k : Nat} (hk : k < l.length) (h : l[k].r.seq ≠ next) : keptP next l (k + 1) = keptP next l k ++ [l[k]] := by
  unfold keptP
  rw [List.take_succ_eq_append_getElem hk, List.filter_append]
  simp [h]
theorem keptP_all {next : Int} {l : List Pl} : (keptP next l l.length).map (·.r) = (l.map (·.r)).filter fun r => decide (r.seq ≠ next) := by
  unfold keptP
  rw [List.take_length, List.filter_map]
  rfl
theorem keptP_le (next : Int) (l : List Pl) (k : Nat) : (keptP next l k).length ≤ l.length := by
  unfold keptP
  have := List.length_filter_le (fun q : Pl => decide (q.r.seq ≠ next)) (l.take k)
  have h2 : (l.take k).length ≤ l.length := by simp; omega
  omega

/-- The row of the filter at m was made since C. -/
def RowFrom (w : World) (m C : Nat) : Prop := ∃ (s r n v : Value), w.heap[m]? = some (.cells #[s, r, n, v] 58 (0, 0)) ∧ ∀ k, v.ownBlock = some k → C ≤ k
theorem RowFrom.below {w w' : World} {m C : Nat} (h : RowFrom w m C) (hb : RowKit.Below w.heap.size w w') : RowFrom w' m C := by
  obtain ⟨s, r, n, v, h1, h2⟩ := h
  exact ⟨s, r, n, v, (hb.block m (ltAt h1)).trans h1, h2⟩

set_option maxRecDepth 100000 in
set_option maxHeartbeats 4000000 in
theorem refTake7_some (w0 : World) (B m : Nat) (F : FilD) (r0 : RecD) (ho : firstF F = some r0) (w : World) (hf : IsRF w0 w B m F) (hlen : F.L.length ≤ 64) (hn0 : 1 ≤ F.next) (hn1 : F.next ≤ 1048577) (hB : B ≤ w.heap.size) :
    Calls Try.prog 16 #[.pointer (some ⟨m, 0, none⟩)] w fun e w' => ∃ v, e = .returned (.tuple #[v, .bool true]) ∧ IsRec w0 v r0 ∧ IsRF w0 w' B m (takeF F) ∧ Touch (fun k => k = m) w w' ∧ RowFrom w' m w.heap.size := by
  have hmw := hf.lt
  have zc := World.alloc_heap_new w (.cells #[.int .i64 0, .int .i64 0, .slice none 0 0, .string ⟨#[]⟩, .string ⟨#[]⟩] 41)
  have hB0 := box_below w (.cells #[.int .i64 0, .int .i64 0, .slice none 0 0, .string ⟨#[]⟩, .string ⟨#[]⟩] 41)
  obtain ⟨W0, hW0⟩ : ∃ W0, w.alloc (.cells #[.int .i64 0, .int .i64 0, .slice none 0 0, .string ⟨#[]⟩, .string ⟨#[]⟩] 41) = W0 := ⟨_, rfl⟩
  rw [hW0] at zc hB0
  have HW := hide hW0
  have HB0 := hide hB0
  have Zc := hide zc
  have hf0 := hide (hf.below hB0)
  clear hW0 zc hB0
  go_enter Try.func16, Try.ntmps16
  go_wp2_with fail
  rw [HW.out]
  refine (refFirst7_calls w0 B m F _ rfl W0 hf0.out (by omega)).mono ?_
  rintro e w1 ⟨v, rfl, hv, hb⟩
  rw [ho] at hv ⊢
  have Hv := hide hv
  obtain ⟨⟨site, seq, dep, key, val⟩, hr0⟩ : ∃ r, ((some r0).getD zeroR : RecD) = r := ⟨_, rfl⟩
  have Hr0 := hide hr0
  rw [hr0] at hv
  obtain ⟨a, cap, rfl, -⟩ := hv
  rw [hr0] at Hv
  dsimp only at Hv ⊢
  clear hr0
  have hb1 := box_below w1 (.cells #[.int .i64 site, .int .i64 seq, .slice a dep.length cap, .string key, .string val] 41)
  have Zc1 := hide (keepB (keepB Zc.out hb) hb1)
  have Xc1 := hide (World.alloc_heap_new w1 (.cells #[.int .i64 site, .int .i64 seq, .slice a dep.length cap, .string key, .string val] 41))
  obtain ⟨z0, z1, z2, z3, z4, g0, g1, g2, g3, g4⟩ := cells5F Zc1.out
  obtain ⟨x0, x1, x2, x3, x4, h0, h1, h2, h3, h4⟩ := cells5F Xc1.out
  have Hb1 := hide hb1
  clear hb1
  have hf1 := hf0.out.below hb
  obtain ⟨rv, l, hl1, hm1, hr1, hn1'⟩ := hf1.val
  obtain ⟨la, lc, rfl⟩ := ownsRow_slice hr1
  obtain ⟨c0, c1, c2, c3, fz0, fz1, fz2, fz3⟩ := cells4F hm1
  have hll : l.length = F.L.length := by rw [← hl1]; simp
  have hlb : l.length ≤ 64 := by omega
  have Hll := hide hll
  have Hl1 := hide hl1
  have Hm1 := hide hm1
  have Hr1 := hide hr1
  have Hn1 := hide hn1'
  have Hb := hide (HB0.out.trans (hb.mono HB0.out.size))
  have Hlow := hide hf.low
  have HB := hide hB
  obtain ⟨i0, hi0, hz0, hz1, hz2⟩ := info_parts Try.info41
  clear hll hl1 hm1 hr1 hn1' hf1 hf ho hB
  go_wp2_with fail
  have hBB := hide (Hb.out.trans (Hb1.out.mono Hb.out.size))
  have Hm2 := hide ((Hb1.out.block m (ltAt Hm1.out)).trans Hm1.out)
  have Hr2 := hide (ownsRow_of_heap (W' := w1.alloc (.cells #[.int .i64 site, .int .i64 seq, .slice a dep.length cap, .string key, .string val] 41)) Hr1.out fun k e => Hb1.out.block k (Hr1.out.lt k e).2)
  have hxlt := Hb.out.size
  have hxs : w1.heap.size < (w1.alloc (.cells #[.int .i64 site, .int .i64 seq, .slice a dep.length cap, .string key, .string val] 41)).heap.size := by simp
  have hzs : w.heap.size < w1.heap.size := by have := ltAt Zc.out; have := hb.size; omega
  clear Hm1 Hr1 Hb1 c0 c1 c2 c3 fz0 fz1 fz2 fz3 z0 z1 z2 z3 z4 g0 g1 g2 g3 g4 x0 x1 x2 x3 x4 h0 h1 h2 h3 h4 Hb hf0 hb Zc
  generalize w1.alloc (.cells #[.int .i64 site, .int .i64 seq, .slice a dep.length cap, .string key, .string val] 41) = W1 at *
  have hne1 : w.heap.size ≠ m := by omega
  have hne2 : w1.heap.size ≠ m := by omega
  have hne3 : w.heap.size ≠ w1.heap.size := by omega
  go_loopw [6, 7] (fun lv i wr => ∃ (k : Nat), k ≤ l.length ∧ i = .int .i64 (k : Int) ∧ wr.ownsRow W1.heap.size 41 5 lv (keptP F.next l k).length ((keptP F.next l k).flatMap Pl.cells5) ∧ RowKit.Below W1.heap.size W1 wr) (fun _ i _ => l.length - (intOf i).toNat)
  case atStart => exact ⟨0, Nat.zero_le _, rfl, World.ownsRow_nil _ _ _ _, RowKit.Below.refl _ _⟩
  case round =>
    obtain ⟨k, hk, rfl, hown, hwr⟩ := hrel
    have Hm3 := hide ((hwr.block m (ltAt Hm2.out)).trans Hm2.out)
    have Hr3 := hide (ownsRow_of_heap Hr2.out fun k e => hwr.block k (Hr2.out.lt k e).2)
    obtain ⟨c0, c1, c2, c3, fz0, fz1, fz2, fz3⟩ := cells4F Hm3.out
    have Hown := hide hown
    have Hwr := hide hwr
    obtain ⟨lva, lvc, rfl⟩ := ownsRow_slice hown
    have hkl0 := keptP_le F.next l k
    have hws := hwr.size
    clear hown hwr
    by_cases hkl : k < l.length
    · have hI : (k : Int) < (l.length : Int) := by omega
      obtain ⟨g, cap', ev, q0, q1, q2, q3, q4⟩ := row_cells Hr3.out k hkl
      simp only [Value.slice.injEq] at ev
      obtain ⟨rfl, -, rfl⟩ := ev
      have hnk := Hn1.out l[k] (List.getElem_mem hkl)
      have hno := fun h => keptP_no (next := F.next) hkl h
      have hyes := fun h => keptP_yes (next := F.next) hkl h
      obtain ⟨x, hx⟩ : ∃ x, l[k] = x := ⟨_, rfl⟩
      rw [hx] at q0 q1 q2 q3 q4 hnk hno hyes
      obtain ⟨da, dcap, hda⟩ := hnk.form
      have hone := five_one hda
      rw [hda] at q2
      obtain ⟨sq, hsq⟩ : ∃ r, x.r.seq = r := ⟨_, rfl⟩
      rw [hsq] at q1
      replace hno := hide hno
      replace hyes := hide hyes
      have hsq' := hide hsq
      have hda' := hide hda
      replace hone := hide hone
      clear hx hsq hda hnk
      by_cases hs : sq = F.next
      · have hsb : (sq == F.next) = true := by simpa using hs
        have Hown0 := Hown
        go_wp2_with fail
        go_quiet (fail)
        go_wp2_with fail
        have hlen2 : k + 1 ≤ l.length := by omega
        exact ⟨⟨k + 1, hlen2, by go_num, by rw [hno.out (by rw [hsq'.out]; exact hs)]; exact Hown0.out, Hwr.out.trans ((drewsB wr nq).mono hws)⟩, by simp [intOf]; omega⟩
      · have hsb : (sq == F.next) = false := by simpa using hs
        have hkk := hide (hyes.out (by rw [hsq'.out]; exact hs))
        go_wp2_with fail
        go_quiet (fail)
        go_wp2_with (at_builtin; refine wpList_append_own _ rfl _ _ 46 rfl W1.heap.size 41 i0 _ 5 72 Try.underlying46 hi0 hz0 hz1 hz2 rfl (by decide) _ _ _ rfl (World.ownsRow.alloc Hown.out _) ⟨_, 0, none⟩ 1 1 [.int .i64 x.r.site, .int .i64 sq, .slice da x.r.dep.length dcap, .string x.r.key, .string x.r.val] rfl rfl (World.news_of_block (cs := #[.int .i64 x.r.site, .int .i64 sq, .slice da x.r.dep.length dcap, .string x.r.key, .string x.r.val]) (t := 41) (fr := (0, 0)) (World.alloc_heap_new _ _)) (by rw [← hsq'.out, ← hda'.out]; exact hone.out) (by unfold maxLen; omega) (by omega) (by simp; omega) ?_; intro v3 w3 hown3 hgrow3 _; obtain ⟨a3, c3, rfl⟩ := ownsRow_slice hown3)
        have hB3 : RowKit.Below W1.heap.size W1 w3 := ((Hwr.out.trans ((drewsB wr nq).mono hws)).alloc (by simpa using hws) _).grown hgrow3 (by simp; omega) (fun j hj => (Hown.out.lt j hj).1)
        refine ⟨⟨_, _, _, _, _, _, _, _, _, _, _, _, _, _, _, _, _, _, _, _, _, _, _, _, _, _, _, _, _, _, _, _, _, _, ?rel, rfl⟩, ?measure⟩
        case rel =>
          refine ⟨k + 1, by omega, by go_num, ?_, hB3⟩
          rw [hkk.out, List.length_append, List.flatMap_append]
          simpa [Pl.cells5, hda'.out, hsq'.out] using hown3
        case measure =>
          simp [intOf]
          omega
    · have hI : ¬ (k : Int) < (l.length : Int) := by omega
      have e : k = l.length := by omega
      have Zc3 := hide ((Hwr.out.block w.heap.size (by omega)).trans Zc1.out)
      have Xc3 := hide ((Hwr.out.block w1.heap.size (by omega)).trans Xc1.out)
      obtain ⟨z0, z1, z2, z3, z4, g0, g1, g2, g3, g4⟩ := cells5F Zc3.out
      obtain ⟨x0, x1, x2, x3, x4, h0, h1, h2, h3, h4⟩ := cells5F Xc3.out
      go_wp2_with fail
      subst e
      have hlow : m < W1.heap.size := by omega
      have f1 := setAt (j := 3) ((Hwr.out.block m hlow).trans Hm2.out) (.slice lva (keptP F.next l l.length).length lvc)
      have f2 := setAt (j := 2) f1 (.int .i64 (F.next + 1))
      obtain ⟨W5, hW5⟩ : ∃ W5, (wr.setCell ⟨m, 3, none⟩ (.slice lva (keptP F.next l l.length).length lvc)).setCell ⟨m, 2, none⟩ (.int .i64 (F.next + 1)) = W5 := ⟨_, rfl⟩
      have t5 : Touch (fun k => k = m) w W5 := by
        rw [← hW5]
        exact Touch.set (S := fun k => k = m) (Touch.set (S := fun k => k = m) (touch_new (hBB.out.trans (Hwr.out.mono hBB.out.size))) _ _ rfl) _ _ rfl
      have n5 : ∀ k : Nat, k ≠ m → W5.heap[k]? = wr.heap[k]? := fun k hk => by
        rw [← hW5]
        exact (RowKit.Below.heap_setCell _ _ _ _ hk).trans (RowKit.Below.heap_setCell _ _ _ _ hk)
      rw [hW5] at f2 ⊢
      have Zc5 := (n5 w.heap.size hne1).trans Zc3.out
      have e5 := put5_heap Zc5 (.int .i64 site) (.int .i64 seq) (.slice a dep.length cap) (.string key) (.string val)
      have hB5 := put5_below (RowKit.Below.refl w.heap.size W5) (Nat.le_refl _) (.int .i64 site) (.int .i64 seq) (.slice a dep.length cap) (.string key) (.string val)
      have t6 := t5.upper (S1 := fun i => w.heap.size ≤ i) (touch_of_below hB5 fun k _ h => h) fun i e => e
      have n6 : ∀ k : Nat, k ≠ w.heap.size → (put5 W5 w.heap.size (.int .i64 site) (.int .i64 seq) (.slice a dep.length cap) (.string key) (.string val)).heap[k]? = W5.heap[k]? := fun k hk => put5_other k hk _ _ _ _ _
      obtain ⟨W6, hW6⟩ : ∃ W6, put5 W5 w.heap.size (.int .i64 site) (.int .i64 seq) (.slice a dep.length cap) (.string key) (.string val) = W6 := ⟨_, rfl⟩
      rw [hW6] at e5 hB5 t6 n6
      unfold put5 at hW6
      rw [hW6]
      obtain ⟨k0, k1, k2, k3, k4, -, -, -, -, -⟩ := cells5F e5
      have hm6 : W6.heap[m]? = some (Obj.cells #[.int .i64 F.site, .int .i64 F.room, .int .i64 (F.next + 1), .slice lva (keptP F.next l l.length).length lvc] 58 (0, 0)) := by
        rw [hB5.block m hmw]
        simpa using f2
      refine bodyPost_ret (v := .tuple #[.agg #[.int .i64 site, .int .i64 seq, .slice a dep.length cap, .string key, .string val], .bool true]) (by simp [results, Try.f16, go_sem, k0, k1, k2, k3, k4]) rfl ⟨_, rfl, ?_, ?_, ?_, ?_⟩
      · have := Hv.out
        rw [← Hr0.out] at this
        exact this
      · refine ⟨Hlow.out, .slice lva (keptP F.next l l.length).length lvc, keptP F.next l l.length, ?_, ?_, ?_, fun q hq => Hn1.out q (List.mem_of_mem_take (List.mem_filter.1 hq).1)⟩
        · rw [keptP_all, Hl1.out]
          rfl
        · exact hm6
        · have h := Hown.out
          refine ownsRow_of_heap ⟨h.1, h.2.imp id fun ⟨g, cap, cur, e, hg, h⟩ => ⟨g, cap, cur, e, by have := HB.out; have := hBB.out.size; omega, h⟩⟩ fun k e => ?_
          have hk := (h : wr.ownsRow _ _ _ _ _ _).lt k e
          exact (n6 k (by omega)).trans (n5 k (by omega))
      · exact t6
      · refine ⟨_, _, _, _, hm6, fun k e => ?_⟩
        have h1 := (Hown.out.lt k e).1
        have h2 := hBB.out.size
        omega
end Go.Proofs.Ytompaldhnbcikaa

/- The laws' SameAll: records and the reference's. Own work; no statement. -/
set_option linter.unusedSimpArgs false
set_option linter.unusedVariables false
namespace Go.Proofs.Ytompaldhnbcikaa
open Go.RowKit Go.Shelf Go.Sort

theorem sameR_selfF (r : RecD) : sameR r r = true := by
  unfold sameR
  simp only [decide_true, Bool.true_and]
  rw [same_iff]
  exact fun _ => rfl

set_option maxRecDepth 100000 in
set_option maxHeartbeats 4000000 in
theorem sameAll_calls (va vb : Value) (L : List RecD) (w : World) (ha : IsRecs w va L) (hb : IsRecs w vb L) (hL : ∀ r ∈ L, r.dep.length ≤ 1099511627776) (hlen : L.length ≤ 1048576) :
    Calls Try.prog 17 #[va, vb] w fun e w' => e = .returned (.bool true) ∧ RowKit.Below w.heap.size w w' := by
  obtain ⟨aa, ca, rfl, hca⟩ := ha
  obtain ⟨ab, cb, rfl, hcb⟩ := hb
  have Hca := hide hca
  have Hcb := hide hcb
  have HL := hide hL
  clear hca hcb hL
  go_enter Try.func17, Try.ntmps17
  go_wp2_with fail
  go_loopw [5] (fun x wr => ∃ k : Nat, x = .int .i64 (k : Int) ∧ k ≤ L.length ∧ RowKit.Below w.heap.size w wr) (fun x _ => L.length - (intOf x).toNat)
  case atStart => exact ⟨0, rfl, Nat.zero_le _, RowKit.Below.refl _ _⟩
  case round =>
    obtain ⟨k, rfl, hk, hb⟩ := hrel
    by_cases hlt : k < L.length
    · have hltI : (k : Int) < (L.length : Int) := by omega
      obtain ⟨ba, oa, rfl, hra⟩ := Hca.out k hlt
      obtain ⟨bb, ob, rfl, hrb⟩ := Hcb.out k hlt
      have hdl := HL.out _ (List.getElem_mem hlt)
      generalize L[k] = r at *
      obtain ⟨site, seq, dep, key, val⟩ := r
      obtain ⟨fa, fc, r0, r1, r2, r3, r4, hn⟩ := hra.below hb
      obtain ⟨ga, gc, f0, f1, f2, f3, f4, hm⟩ := hrb.below hb
      dsimp only at *
      replace r0 := cell_regrown r0
      replace r1 := cell_regrown r1
      replace r2 := cell_regrown r2
      replace r3 := cell_regrown r3
      replace r4 := cell_regrown r4
      replace f0 := cell_regrown f0
      replace f1 := cell_regrown f1
      replace f2 := cell_regrown f2
      replace f3 := cell_regrown f3
      replace f4 := cell_regrown f4
      have q4 := hide (fun d os => Calls.regrown_of (recOfLaw_calls _ ⟨site, seq, dep, key, val⟩ (grow (redrawn wr d) os) ⟨fa, fc, rfl, hn.below (below_regrown wr d os)⟩))
      have q5 := hide (fun d os => Calls.regrown_of (refSameRec_calls (.agg #[.int .i64 site, .int .i64 seq, .slice fa dep.length fc, .string key, .string val]) (.agg #[.int .i64 site, .int .i64 seq, .slice ga dep.length gc, .string key, .string val]) ⟨site, seq, dep, key, val⟩ ⟨site, seq, dep, key, val⟩ (grow (redrawn wr d) os) ⟨fa, fc, rfl, hn.below (below_regrown wr d os)⟩ ⟨ga, gc, rfl, hm.below (below_regrown wr d os)⟩ hdl hdl))
      rw [sameR_selfF] at q5
      have HB := hide hb
      clear hn hm hra hrb hb hdl
      go_wp2_with fail
      refine wp_region_quiet_below (by kernel_rfl) (by kernel_rfl) ?_
      first | go_big_quiet_step (fail) | quiet_step (fail)
      first | go_big_quiet_step (fail) | quiet_step (fail)
      first | go_big_quiet_step (fail) | quiet_step (fail)
      first | go_big_quiet_step (fail) | quiet_step (fail)
      first | go_big_quiet_step (exact q4.out _ _) | quiet_step (exact q4.out _ _)
      first | go_big_quiet_step (fail) | quiet_step (fail)
      first | go_big_quiet_step (fail) | quiet_step (fail)
      first | go_big_quiet_step (fail) | quiet_step (fail)
      first | go_big_quiet_step (fail) | quiet_step (fail)
      first | go_big_quiet_step (exact q5.out _ _) | quiet_step (exact q5.out _ _)
      first | go_big_quiet_step (fail) | quiet_step (fail)
      refine wpQuiet_nil ?_
      intro _ hw'
      obtain ⟨⟨dq, osq⟩, hw''⟩ := hw'
      subst hw''
      go_wp2_with fail
      exact ⟨⟨k + 1, by go_num, by omega, HB.out.trans ((below_regrown _ dq osq).mono HB.out.size)⟩, by simp [intOf]; omega⟩
    · obtain rfl : k = L.length := by omega
      have HB := hide hb
      clear hb
      go_wp2_with fail
      go_ret
      exact ⟨rfl, HB.out⟩

end Go.Proofs.Ytompaldhnbcikaa
