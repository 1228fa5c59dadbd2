/- The walk of the law VecAll. Own work; no statement. -/
import Derived.Test.YtepadjcmmkglfaaDoorPlain
import Derived.Test.YtepadjcmmkglfaaDoorFrame
import Derived.OpenShut
set_option linter.unusedSimpArgs false
set_option linter.unusedVariables false
namespace Go.Proofs.YtepadjcmmkglfaaDoor
open Go.RowKit Go.Shelf

attribute [local go_sem] Oper.semAt_some

theorem pairsTo_pre (l : List Int) (k : Nat) : ∀ d, ∃ r, pairsTo l (k + d) = pairsTo l k ++ r
  | 0 => ⟨[], by simp⟩
  | d + 1 => by
    obtain ⟨r, hr⟩ := pairsTo_pre l k d
    exact ⟨_, by rw [← Nat.add_assoc, pairsTo, hr, List.append_assoc]⟩
theorem pairsTo_le (l : List Int) {k m : Nat} (h : k ≤ m) : ∃ r, pairsTo l m = pairsTo l k ++ r := by
  obtain ⟨r, hr⟩ := pairsTo_pre l k (m - k)
  exact ⟨r, by rw [← hr]; congr 1; omega⟩
/-- Behind the first k sites all are nothing. -/
theorem pairsTo_rest (l : List Int) (k m : Nat) (h : k < m) (e : pairsTo l k = pairsTo l m) : l.getD k 0 = 0 ∧ pairsTo l (k + 1) = pairsTo l m := by
  by_cases h0 : l.getD k 0 = 0
  · exact ⟨h0, by rw [pairsTo_skip l k _ rfl h0]; exact e⟩
  · obtain ⟨r, hr⟩ := pairsTo_le l (show k + 1 ≤ m by omega)
    rw [pairsTo_take l k _ rfl h0] at hr
    have := congrArg List.length hr
    rw [← e] at this
    simp at this
/-- What comes behind the first k sites' pairs is the next one that is not nothing. -/
theorem pairsTo_next (l : List Int) (k m : Nat) (x : Int × Int) (hm : m ≤ l.length) (hk : k < l.length → l.getD k 0 ≠ 0) (e : pairsTo l k ++ [x] = pairsTo l m) : k < l.length ∧ x.1 = k ∧ x.2 = l.getD k 0 := by
  have hkm : k < m := by
    apply Nat.lt_of_not_le
    intro h
    obtain ⟨r, hr⟩ := pairsTo_le l h
    rw [hr] at e
    have := congrArg List.length e
    simp at this
  obtain ⟨r, hr⟩ := pairsTo_le l (show k + 1 ≤ m by omega)
  rw [pairsTo_take l k _ rfl (hk (by omega)), ← e, List.append_assoc] at hr
  have := List.append_cancel_left hr
  simp at this
  exact ⟨by omega, by rw [this.1], by rw [this.1]; rfl⟩
def boxInt (W : World) (b : Nat) : Nat := match W.cell? ⟨b, 0, none⟩ with | some (.int _ k) => k.toNat | _ => 0
theorem boxInt_of {W : World} {b k : Nat} (h : W.cell? ⟨b, 0, none⟩ = some (.int .i64 (k : Int))) : boxInt W b = k := by
  unfold boxInt
  rw [h]
  simp

set_option maxRecDepth 100000 in
set_option maxHeartbeats 4000000 in
theorem vecAll_main (va : Value) (a : List Int) (n : Int) (w : World) (ha : IsNums .i64 w va a) (wa : ∀ n ∈ a, (Lit.int .i64 n).wf = true) (wn : (Lit.int .u8 n).wf = true) (hp : Pow w) :
    Calls Tryd.prog 5 #[va, .int .u8 n] w fun e w' => e = .returned (.bool true) ∧ Below w.heap.size w w' := by
  have heq : ∀ (fn : Fn) (first cap : Array Value) (w : World), (binOp .eql 45 (.func fn first cap) .nilFunc).run Tryd.prog w = .ok (.bool false) w := fun _ _ _ _ => by kernel_rfl
  obtain ⟨n0, n1⟩ := bounds_u8 wn
  obtain ⟨pa, capa, rfl, -, -⟩ := id ha
  have ha0 := hide ha
  replace ha := hide ha
  replace hp := hide hp
  clear wa wn
  refine (callsIn_wide (n := 5)).1 ?_
  refine callsIn_of_wp_marks Tryd.func5 rfl trivial ?_ rfl
  simp only [Tryd.ntmps5, List.size_toArray, List.length_cons, List.length_nil, Nat.reduceAdd, Nat.reduceSub, Array.replicate_succ, Array.replicate_zero, List.push_toArray, List.append_toArray, List.nil_append, List.cons_append]
  gi_wp2_with fail
  have b0 := Boxed.new w 22 (.slice pa a.length capa)
  obtain ⟨w1, hw1⟩ : ∃ w1, w.alloc (.cells #[.slice pa a.length capa] 22) = w1 := ⟨_, rfl⟩
  have s1 : w1.heap.size = w.heap.size + 1 := by rw [← hw1]; simp
  have b1 := Boxed.new w1 5 (.int .u8 n)
  obtain ⟨w2, hw2⟩ : ∃ w2, w1.alloc (.cells #[.int .u8 n] 5) = w2 := ⟨_, rfl⟩
  have s2 : w2.heap.size = w.heap.size + 2 := by rw [← hw2]; simp [s1]
  have b2 := Boxed.new w2 4 (.bool false)
  obtain ⟨w3, hw3⟩ : ∃ w3, w2.alloc (.cells #[.bool false] 4) = w3 := ⟨_, rfl⟩
  have s3 : w3.heap.size = w.heap.size + 3 := by rw [← hw3]; simp [s2]
  rw [hw1] at b0
  rw [hw2] at b1
  rw [hw3] at b2
  replace b0 : Boxed w3 w.heap.size 22 (.slice pa a.length capa) := by rw [← hw3, ← hw2]; exact (b0.alloc _).alloc _
  replace b1 : Boxed w3 (w.heap.size + 1) 5 (.int .u8 n) := by rw [s1] at b1; rw [← hw3]; exact b1.alloc _
  replace b2 : Boxed w3 (w.heap.size + 2) 4 (.bool false) := by rw [s2] at b2; exact b2
  have hB : Below w.heap.size w w3 := by
    rw [← hw3, ← hw2, ← hw1]
    exact (((Below.refl _ w).alloc (Nat.le_refl _) _).alloc (by simp) _).alloc (by simp; omega) _
  rw [hw1, hw2, hw3]
  clear hw1 hw2 hw3 s1 s2 w1 w2
  simp only [Nat.add_assoc, Nat.reduceAdd]
  replace ha := hide (ha.out.below hB)
  replace hp := hide (hp.out.below hB)
  refine ⟨trivial, (callsIn_wide (n := 4) |>.2 (known_calls _ hp.out)).mono ?_⟩
  rintro e w4 ⟨rfl, hB1⟩
  replace ha := hide (ha.out.below hB1)
  replace b0 := boxed_of_heap b0 (hB1.block _ (by omega))
  replace b1 := boxed_of_heap b1 (hB1.block _ (by omega))
  replace b2 := boxed_of_heap b2 (hB1.block _ (by omega))
  have s4 : w.heap.size + 3 ≤ w4.heap.size := by have := hB1.size; omega
  replace hB := hB.trans (hB1.mono (by omega))
  clear hB1 hp s3
  have c0 := b0.cell
  have c1 := b1.cell
  have c2 := b2.cell
  have f2 := b2.frozen
  gi_wp2_with fail
  refine ⟨trivial, (callsIn_wide (n := 4) |>.2 (few_calls _ a _ ha.out)).mono ?_⟩
  rintro e w5 ⟨rfl, rfl⟩
  by_cases h70 : a.length ≤ 70
  · rw [decide_eq_true h70]
    gi_wp2_with fail
    refine ⟨trivial, (callsIn_wide (n := 4) |>.2 (all_calls _ a _ ha.out (by omega))).mono ?_⟩
    rintro e w6 ⟨Bs, g, rfl, hAll, hg, hBs, hB1⟩
    replace ha := hide (ha.out.below hB1)
    replace b0 := boxed_of_heap b0 (hB1.block _ (by omega))
    replace b1 := boxed_of_heap b1 (hB1.block _ (by omega))
    replace b2 := boxed_of_heap b2 (hB1.block _ (by omega))
    have s6 : w5.heap.size ≤ w6.heap.size := hB1.size
    replace hB := hB.trans (hB1.mono (by omega))
    clear hB1 c0 c1 c2 f2
    gi_wp2_with fail
    obtain ⟨W0, hW0⟩ : ∃ W0, (w6.alloc (.cells #[.int .i64 0] 3)).alloc (.cells #[.int .i64 0] 3) = W0 := ⟨_, rfl⟩
    have z0 : W0.heap.size = w6.heap.size + 2 := by rw [← hW0]; simp
    have b3 : Boxed W0 w6.heap.size 3 (.int .i64 0) := by rw [← hW0]; exact ((boxed_new' (by simp)).alloc _)
    have b4 : Boxed W0 (w6.heap.size + 1) 3 (.int .i64 0) := by rw [← hW0]; exact (boxed_new' (by simp))
    replace b0 : Boxed W0 w.heap.size 22 (.slice pa a.length capa) := by rw [← hW0]; exact (b0.alloc _).alloc _
    replace b1 : Boxed W0 (w.heap.size + 1) 5 (.int .u8 n) := by rw [← hW0]; exact (b1.alloc _).alloc _
    replace b2 : Boxed W0 (w.heap.size + 2) 4 (.bool false) := by rw [← hW0]; exact (b2.alloc _).alloc _
    have hB0 : Below w6.heap.size w6 W0 := by rw [← hW0]; exact ((Below.refl _ w6).alloc (Nat.le_refl _) _).alloc (by simp) _
    have hgn : g < w6.heap.size := hAll.1
    replace hAll := hAll.below hB0
    replace hB := hB.trans (hB0.mono (by omega))
    have hgs := hAll.1
    rw [hW0]
    clear hW0 hB0 ha
    refine wpIn_rangeFunc_ownG rfl (by decide) (gf := 50) (lb := #[.pointer (some ⟨Bs, 0, none⟩)]) rfl trivial (enters_of Tryd.func50 (by kernel_rfl) rfl)
      (all_stops 4 (by decide) Bs g a (by omega) W0 hAll) keepsRow_t (keepsRow_b hAll.1) (Below.refl _ _) (fun _ => rfl)
      (fun pre W => (∃ k, k ≤ a.length ∧ pre = pairsTo a k ∧ Boxed W (w6.heap.size + 1) 3 (.int .i64 (k : Int)) ∧ Boxed W w6.heap.size 3 (.int .i64 (pre.length : Int)) ∧ Boxed W w.heap.size 22 (.slice pa a.length capa) ∧ Boxed W (w.heap.size + 1) 5 (.int .u8 n) ∧ Boxed W (w.heap.size + 2) 4 (.bool false)) ∧ Below w.heap.size w W)
      (fun c pre W => (c = .ret ∧ (Boxed W (w.heap.size + 2) 4 (.bool true) ∨ ¬ ∃ k, k ≤ a.length ∧ pre = pairsTo a k)) ∧ Below w.heap.size w W)
      ?hI ?hIx ⟨⟨0, Nat.zero_le _, rfl, b4, b3, b0, b1, b2⟩, hB⟩
      (fun x => { tmps := #[.slice pa a.length capa, .int .u8 n, .pointer (some ⟨w.heap.size, 0, none⟩), .pointer (some ⟨w.heap.size + 1, 0, none⟩), .pointer (some ⟨w.heap.size + 2, 0, none⟩), .func (.func 50) #[] #[.pointer (some ⟨Bs, 0, none⟩)], .pointer (some ⟨w6.heap.size, 0, none⟩), .pointer (some ⟨w6.heap.size + 1, 0, none⟩), .int .i64 x.1, .int .i64 x.2, .bool true, .bool false, .slice pa a.length capa, .bool true, .bool false, .slice pa a.length capa, .func (.func 50) #[] #[.pointer (some ⟨Bs, 0, none⟩)], .func (.func 50) #[] #[.pointer (some ⟨Bs, 0, none⟩)], .bool false, .func (.func 50) #[] #[.pointer (some ⟨Bs, 0, none⟩)], .int .i64 x.1, .int .i64 x.2, undef, undef, undef, undef, undef, undef, undef, undef, undef, undef, undef, undef, undef, undef, undef, undef, undef, undef, undef, undef, undef, undef, undef, undef, undef, undef, undef, undef, undef, undef, undef, undef, undef, undef, undef, undef, undef, undef, undef, undef, undef, undef, undef, undef, undef, undef, undef, undef, undef], defers := [] }) ?assign ?body ?done ?stop
    case hI =>
      refine OwnFrom.and (Own.from (fun pre X Y row hh hg hr => ?_) _) (ownFrom_below (by omega) (by omega))
      obtain ⟨k, hk, hp, h1, h2, h3, h4, h5⟩ := hh
      exact ⟨k, hk, hp, boxed_own' hg hr h1, boxed_own' hg hr h2, boxed_own' hg hr h3, boxed_own' hg hr h4, boxed_own' hg hr h5⟩
    case hIx =>
      intro c
      refine OwnFrom.and (Own.from (fun pre X Y row hh hg hr => ?_) _) (ownFrom_below (by omega) (by omega))
      exact ⟨hh.1, hh.2.imp (fun h => boxed_own' hg hr h) id⟩
    case assign =>
      intro l x W K hK
      gi_wp2
      exact hK
    case body =>
      rintro lp pre ⟨xi, xv⟩ W ⟨⟨k, hk, rfl, h1, h2, h3, h4, h5⟩, hB⟩ hlt
      clear b0 b1 b2 b3 b4 hAll
      dsimp only
      gi_wp2_with fail
      gi_loopw [22] (fun _ wr => ∃ k', k' ≤ a.length ∧ pairsTo a k' = pairsTo a k ∧ Boxed wr (w6.heap.size + 1) 3 (.int .i64 (k' : Int)) ∧ KeepsOthers W wr ∧ (∀ b, b ≠ w6.heap.size + 1 → wr.heap[b]? = W.heap[b]?) ∧ Below w.heap.size w wr) (fun _ wr => a.length - boxInt wr (w6.heap.size + 1))
      case atStart => exact ⟨k, hk, rfl, h1, KeepsOthers.refl _, fun _ _ => rfl, hB⟩
      case round =>
        obtain ⟨k', hk', hpk, h1', hko, hoth, hB'⟩ := hrel
        have r2 := boxed_of_heap h2 (hoth _ (by omega))
        have r3 := boxed_of_heap h3 (hoth _ (by omega))
        have r4 := boxed_of_heap h4 (hoth _ (by omega))
        have r5 := boxed_of_heap h5 (hoth _ (by omega))
        have hg0 := hoth g (by omega)
        replace hoth := hide hoth
        replace hpk := hide hpk
        clear h1 h2 h3 h4 h5
        have c1 := h1'.cell
        have c2 := r2.cell
        have c3 := r3.cell
        have c4 := r4.cell
        have c5 := r5.cell
        have f1 := h1'.frozen
        have f2 := r2.frozen
        have f5 := r5.frozen
        by_cases hlt' : k' < a.length
        · have hltI : (k' : Int) < (a.length : Int) := by omega
          rcases ha0.out.cases with ⟨rfl, -, -, -⟩ | ⟨b, o, cap, hsl, -, hcap, hb, hcell⟩
          · simp at hlt'
          · cases hsl
            have hcl : wr.cell? ⟨b, o + k', none⟩ = _ := (hB'.cell (p := ⟨b, o + k', none⟩) hb).trans (hcell k' hlt')
            clear hcell
            generalize hv : a.getD k' 0 = v at hcl
            replace hv := hide hv
            by_cases hv0 : v = 0
            · have hv1 : (v == 0) = true := by simp [hv0]
              replace hv0 := hide hv0
              gi_wp2_with fail
              refine ⟨⟨k' + 1, by omega, by rw [pairsTo_skip a k' v hv.out hv0.out]; exact hpk.out, h1'.set _, hko.trans (KeepsOthers.setCell _ _ _), fun b hb => (one_set b hb).trans (hoth.out b hb), hB'.setCell (p := ⟨w6.heap.size + 1, 0, none⟩) (by simp; omega) _⟩, ?_⟩
              rw [boxInt_of c1, show boxInt (wr.setCell ⟨w6.heap.size + 1, 0, none⟩ (.int .i64 ((k' : Int) + 1))) (w6.heap.size + 1) = k' + 1 from boxInt_of (h1'.set (.int .i64 ((k' + 1 : Nat) : Int))).cell]
              omega
            · have hv1 : (v == 0) = false := by simp [hv0]
              replace hv0 := hide hv0
              by_cases hxi : xi = (k' : Int)
              · by_cases hxv : xv = v
                · have hx1 : (xi != (k' : Int)) = false := by simp [hxi]
                  have hx2 : (xv != v) = false := by simp [hxv]
                  have hpp : pairsTo a (k' + 1) = pairsTo a k ++ [(xi, xv)] := by rw [pairsTo_take a k' v hv.out hv0.out, hpk.out, hxi, hxv]
                  have hle : (pairsTo a k ++ [(xi, xv)]).length = (pairsTo a k).length + 1 := by simp
                  replace hpp := hide hpp
                  replace hle := hide hle
                  clear hxi hxv
                  generalize hL : (pairsTo a k).length = L at *
                  by_cases hm : n < (L : Int) + 1
                  · gi_wp2_with fail
                    exact ⟨(((hko.trans (KeepsOthers.setCell _ _ _)).trans (KeepsOthers.setCell _ _ _)).trans (KeepsOthers.setCell _ _ _)).from _, ⟨rfl, .inl ((boxed_of_heap r5 (two_sets _ (by omega) (by omega))).set _)⟩, ((hB'.setCell (p := ⟨w6.heap.size + 1, 0, none⟩) (by simp; omega) _).setCell (p := ⟨w6.heap.size, 0, none⟩) (by simp; omega) _).setCell (p := ⟨w.heap.size + 2, 0, none⟩) (by simp) _⟩
                  · gi_wp2_with fail
                    refine ⟨((hko.trans (KeepsOthers.setCell _ _ _)).trans (KeepsOthers.setCell _ _ _)).from _, (two_sets g (by omega) (by omega)).trans hg0, ⟨k' + 1, by omega, hpp.out.symm, boxed_of_heap (h1'.set _) (one_set _ (by omega)), ?_, boxed_of_heap r3 (two_sets _ (by omega) (by omega)), boxed_of_heap r4 (two_sets _ (by omega) (by omega)), boxed_of_heap r5 (two_sets _ (by omega) (by omega))⟩, (hB'.setCell (p := ⟨w6.heap.size + 1, 0, none⟩) (by simp; omega) _).setCell (p := ⟨w6.heap.size, 0, none⟩) (by simp; omega) _⟩
                    rw [hle.out]
                    exact (boxed_of_heap r2 (one_set _ (by omega))).set _
                · have hx1 : (xi != (k' : Int)) = false := by simp [hxi]
                  have hx2 : (xv != v) = true := by simp [hxv]
                  have hbad : ¬ ∃ m, m ≤ a.length ∧ pairsTo a k ++ [(xi, xv)] = pairsTo a m := by
                    rintro ⟨m, hm, e⟩
                    rw [← hpk.out] at e
                    exact hxv ((pairsTo_next a k' m _ hm (fun _ h => hv0.out (hv.out.symm.trans h)) e).2.2.trans hv.out)
                  replace hbad := hide hbad
                  clear hxi hxv
                  gi_wp2_with fail
                  exact ⟨(hko.trans (KeepsOthers.setCell _ _ _)).from _, ⟨rfl, .inr (by first | exact hbad.out | exact fun m h1 h2 => hbad.out ⟨m, h1, h2⟩)⟩, hB'.setCell (p := ⟨w.heap.size + 2, 0, none⟩) (by simp) _⟩
              · have hx1 : (xi != (k' : Int)) = true := by simp [hxi]
                have hbad : ¬ ∃ m, m ≤ a.length ∧ pairsTo a k ++ [(xi, xv)] = pairsTo a m := by
                  rintro ⟨m, hm, e⟩
                  rw [← hpk.out] at e
                  exact hxi (pairsTo_next a k' m _ hm (fun _ h => hv0.out (hv.out.symm.trans h)) e).2.1
                replace hbad := hide hbad
                clear hxi
                gi_wp2_with fail
                exact ⟨(hko.trans (KeepsOthers.setCell _ _ _)).from _, ⟨rfl, .inr (by first | exact hbad.out | exact fun m h1 h2 => hbad.out ⟨m, h1, h2⟩)⟩, hB'.setCell (p := ⟨w.heap.size + 2, 0, none⟩) (by simp) _⟩
        · have hltI : ¬ (k' : Int) < (a.length : Int) := by omega
          have hbad : ¬ ∃ m, m ≤ a.length ∧ pairsTo a k ++ [(xi, xv)] = pairsTo a m := by
            rintro ⟨m, hm, e⟩
            rw [← hpk.out] at e
            exact hlt' (pairsTo_next a k' m _ hm (fun h => absurd h hlt') e).1
          replace hbad := hide hbad
          gi_wp2_with fail
          exact ⟨(hko.trans (KeepsOthers.setCell _ _ _)).from _, ⟨rfl, .inr (by first | exact hbad.out | exact fun m h1 h2 => hbad.out ⟨m, h1, h2⟩)⟩, hB'.setCell (p := ⟨w.heap.size + 2, 0, none⟩) (by simp) _⟩
    case done =>
      rintro D ys W hD rfl ⟨⟨k, hk, hp, h1, h2, h3, h4, h5⟩, hB⟩ hK
      clear b0 b1 b2 b3 b4 hAll h2 h4
      have hp' := hide hp.symm
      clear hp
      gi_wp2_with fail
      gi_loopw [60] (fun _ wr => ∃ k', k' ≤ a.length ∧ pairsTo a k' = pairsTo a a.length ∧ Boxed wr (w6.heap.size + 1) 3 (.int .i64 (k' : Int)) ∧ (∀ b, b ≠ w6.heap.size + 1 → wr.heap[b]? = W.heap[b]?) ∧ Below w.heap.size w wr) (fun _ wr => a.length - boxInt wr (w6.heap.size + 1))
      case atStart => exact ⟨k, hk, hp'.out, h1, fun _ _ => rfl, hB⟩
      case round =>
        obtain ⟨k', hk', hpk, h1', hoth, hB'⟩ := hrel
        have r3 := boxed_of_heap h3 (hoth _ (by omega))
        have r5 := boxed_of_heap h5 (hoth _ (by omega))
        have hK' := (hoth D (by omega)).trans hK
        replace hoth := hide hoth
        replace hpk := hide hpk
        clear h1 h3 h5
        have c1 := h1'.cell
        have c3 := r3.cell
        have c5 := r5.cell
        have f1 := h1'.frozen
        have f5 := r5.frozen
        by_cases hlt' : k' < a.length
        · have hltI : (k' : Int) < (a.length : Int) := by omega
          obtain ⟨hv0, hpn⟩ := pairsTo_rest a k' a.length hlt' hpk.out
          rcases ha0.out.cases with ⟨rfl, -, -, -⟩ | ⟨b, o, cap, hsl, -, hcap, hb, hcell⟩
          · simp at hlt'
          · cases hsl
            have hcl : wr.cell? ⟨b, o + k', none⟩ = _ := (hB'.cell (p := ⟨b, o + k', none⟩) hb).trans (hcell k' hlt')
            rw [hv0] at hcl
            clear hcell hv0
            replace hpn := hide hpn
            gi_wp2_with fail
            refine ⟨⟨k' + 1, by omega, hpn.out, h1'.set _, fun b hb => (one_set b hb).trans (hoth.out b hb), hB'.setCell (p := ⟨w6.heap.size + 1, 0, none⟩) (by simp; omega) _⟩, ?_⟩
            rw [boxInt_of c1, show boxInt (wr.setCell ⟨w6.heap.size + 1, 0, none⟩ (.int .i64 ((k' : Int) + 1))) (w6.heap.size + 1) = k' + 1 from boxInt_of (h1'.set (.int .i64 ((k' + 1 : Nat) : Int))).cell]
            omega
        · have hltI : ¬ (k' : Int) < (a.length : Int) := by omega
          gi_wp2_with fail
          obtain ⟨W3, hW3⟩ : ∃ W3, wr.setCell ⟨w.heap.size + 2, 0, none⟩ (.bool true) = W3 := ⟨_, rfl⟩
          have hK3 : W3.heap[D]? = some (.deferred (some [])) := by rw [← hW3]; exact (one_set D (by omega)).trans hK'
          have R5 : Boxed W3 (w.heap.size + 2) 4 (.bool true) := by rw [← hW3]; exact r5.set _
          have hB3 : Below w.heap.size w W3 := by rw [← hW3]; exact hB'.setCell (p := ⟨w.heap.size + 2, 0, none⟩) (by simp) _
          rw [hW3]
          have hr : ∀ r, some D = some r → ∃ o : Obj, W3.heap[r]? = some o ∧ o.isCells = false := fun r e => by cases e; exact ⟨_, hK3, rfl⟩
          have Q0 := (boxed_own' (grownBy_putObj' W3 D (.deferred none)) hr R5).cell
          refine ⟨by simp, .inl ⟨_, _, rfl, run_takeDeferred hK3, ?_⟩⟩
          exact ⟨.bool true, by simp [results, Tryd.f5, go_sem, Q0], rfl, hB3.trans (belowK_b (w := w) (by omega) W3 D _ _ (by omega) hK3 rfl rfl)⟩
    case stop =>
      rintro D c pre W hD hpre ⟨⟨rfl, h | h⟩, hB⟩ hK
      · have hr : ∀ r, some D = some r → ∃ o : Obj, W.heap[r]? = some o ∧ o.isCells = false := fun r e => by cases e; exact ⟨_, hK, rfl⟩
        have Q0 := (boxed_own' (grownBy_putObj' W D (.deferred none)) hr h).cell
        clear b0 b1 b2 b3 b4 hAll
        gi_wp2
        refine ⟨by simp, .inl ⟨_, _, rfl, run_takeDeferred hK, ?_⟩⟩
        exact ⟨.bool true, by simp [results, Tryd.f5, go_sem, Q0], rfl, hB.trans (belowK_b (w := w) (by omega) W D _ _ (by omega) hK rfl rfl)⟩
      · exact absurd hpre h
  · rw [decide_eq_false h70]
    gi_wp2_with fail
    have Q0 := (b2.set (.bool true)).cell
    exact ⟨.bool true, by simp [results, Tryd.f5, go_sem, Q0], rfl, hB.setCell (p := ⟨w.heap.size + 2, 0, none⟩) (by simp) _⟩

end Go.Proofs.YtepadjcmmkglfaaDoor
