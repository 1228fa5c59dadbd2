/- The walk of RecOf. Own work; no statement. -/
import Derived.Test.YthpahkcncjieiaaDoorPlacedTo
import Derived.Test.YthpahkcncjieiaaDoorRefRs
import Derived.Test.YthpahkcncjieiaaDoorFrameRs
import Derived.Test.YthpahkcncjieiaaDoorQRound
import Derived.OpenShut
set_option linter.unusedSimpArgs false
set_option linter.unusedVariables false
namespace Go.Proofs.YthpahkcncjieiaaDoor
open Go.RowKit Go.Shelf Go.Sort

attribute [local go_sem] Oper.semAt_some

def boxInt2 (W : World) (b : Nat) : Nat := match W.cell? ⟨b, 0, none⟩ with | some (.int _ k) => k.toNat | _ => 0
theorem boxInt2_of {W : World} {b k : Nat} (h : W.cell? ⟨b, 0, none⟩ = some (.int .i64 (k : Int))) : boxInt2 W b = k := by
  unfold boxInt2
  rw [h]
  simp
theorem u8_fits {n : Int} (h : (Lit.int .u8 n).wf = true) : 0 ≤ n ∧ n ≤ 255 := by
  have h' : (decide (IntKind.u8.min ≤ n) && decide (n ≤ IntKind.u8.max)) = true := h
  simp only [Bool.and_eq_true, decide_eq_true_eq] at h'
  exact h'

theorem IsRecs.rec_at {w : World} {pa : Option Addr} {n cap : Nat} {l : List RecD} (h : IsRecs w (.slice pa n cap) l) {k : Nat} (hk : k < l.length) : ∃ b o, pa = some ⟨b, o, none⟩ ∧ RecAt w b (o + k * 5) l[k] := by
  obtain ⟨a, c, e, h⟩ := h
  simp only [Value.slice.injEq] at e
  obtain ⟨rfl, -, -⟩ := e
  exact h k hk

/-- What lies in the boxes of RecOf. -/
structure InOf (o b : Nat) (sl : Value) (site most : Int) (W : World) (k n : Nat) : Prop where
  l : Boxed W o 22 sl
  s : Boxed W (o + 1) 3 (.int .i64 site)
  m : Boxed W (o + 2) 5 (.int .u8 most)
  r : Boxed W (o + 3) 4 (.bool false)
  k : Boxed W b 3 (.int .i64 (k : Int))
  n : Boxed W (b + 1) 3 (.int .i64 (n : Int))
theorem InOf.keep {o b : Nat} {sl : Value} {site most : Int} {W W' : World} {k n : Nat} (h : InOf o b sl site most W k n) (hk : ∀ (k : Nat) (c : Array Value) (t : TypeId) (f : Nat × Nat), W.heap[k]? = some (.cells c t f) → W'.heap[k]? = W.heap[k]?) : InOf o b sl site most W' k n :=
  ⟨boxed_of_heap h.l (hk _ _ _ _ h.l), boxed_of_heap h.s (hk _ _ _ _ h.s), boxed_of_heap h.m (hk _ _ _ _ h.m), boxed_of_heap h.r (hk _ _ _ _ h.r), boxed_of_heap h.k (hk _ _ _ _ h.k), boxed_of_heap h.n (hk _ _ _ _ h.n)⟩
theorem InOf.below {o b : Nat} {sl : Value} {site most : Int} {W W' : World} {k n : Nat} (h : InOf o b sl site most W k n) (hb : Below W.heap.size W W') : InOf o b sl site most W' k n :=
  h.keep fun k _ _ _ e => hb.block k (Array.getElem?_eq_some_iff.1 e).1

theorem InOf.setK {o b : Nat} {sl : Value} {site most : Int} {W : World} {k n : Nat} (h : InOf o b sl site most W k n) (hb : o + 3 < b) (k' : Nat) : InOf o b sl site most (W.setCell ⟨b, 0, none⟩ (.int .i64 (k' : Int))) k' n :=
  ⟨boxed_of_heap h.l (Below.heap_setCell _ _ _ _ (by simp only [ne_eq]; omega)), boxed_of_heap h.s (Below.heap_setCell _ _ _ _ (by simp only [ne_eq]; omega)), boxed_of_heap h.m (Below.heap_setCell _ _ _ _ (by simp only [ne_eq]; omega)), boxed_of_heap h.r (Below.heap_setCell _ _ _ _ (by simp only [ne_eq]; omega)), h.k.set _, boxed_of_heap h.n (Below.heap_setCell _ _ _ _ (by simp only [ne_eq]; omega))⟩
theorem InOf.setN {o b : Nat} {sl : Value} {site most : Int} {W : World} {k n : Nat} (h : InOf o b sl site most W k n) (hb : o + 3 < b) (n' : Nat) : InOf o b sl site most (W.setCell ⟨b + 1, 0, none⟩ (.int .i64 (n' : Int))) k n' :=
  ⟨boxed_of_heap h.l (Below.heap_setCell _ _ _ _ (by simp only [ne_eq]; omega)), boxed_of_heap h.s (Below.heap_setCell _ _ _ _ (by simp only [ne_eq]; omega)), boxed_of_heap h.m (Below.heap_setCell _ _ _ _ (by simp only [ne_eq]; omega)), boxed_of_heap h.r (Below.heap_setCell _ _ _ _ (by simp only [ne_eq]; omega)), boxed_of_heap h.k (Below.heap_setCell _ _ _ _ (by simp only [ne_eq]; omega)), h.n.set _⟩
theorem row_set {W : World} {B : Nat} {e : TypeId} {s : Nat} {v : Value} {n : Nat} {xs : List Value} (h : W.ownsRow B e s v n xs) {c : Nat} (hc : c < B) (u : Value) : (W.setCell ⟨c, 0, none⟩ u).ownsRow B e s v n xs :=
  ownsRow_of_heap h fun k hk => Below.heap_setCell _ _ _ _ (fun e' => by have := (h.lt k hk).1; have e2 : k = c := e'; omega)
theorem keepsOthers_below {A W : World} (h : Below A.heap.size A W) : KeepsOthers A W := ⟨h.size, fun _ _ ho _ => keepB ho h⟩
theorem keepsSpan_set {lo hi : Nat} {W : World} {c : Nat} (hc : c < lo ∨ hi ≤ c) (u : Value) : KeepsSpan lo hi W (W.setCell ⟨c, 0, none⟩ u) := fun k h1 h2 => Below.heap_setCell _ _ _ _ (by simp only [ne_eq]; omega)

set_option maxRecDepth 100000 in
set_option maxHeartbeats 4000000 in
theorem recOf_main (va : Value) (l : List RecD) (site most : Int) (w : World) (ha : IsRecs w va l) (wa : ∀ r ∈ l, RecWf r ∧ r.dep.length ≤ 17592186044416) (ws : (Lit.int .i64 site).wf = true) (wm : (Lit.int .u8 most).wf = true) (hp : Pow w) :
    Calls Tryd.prog 3 #[va, .int .i64 site, .int .u8 most] w fun e w' => e = .returned (.bool true) ∧ Below w.heap.size w w' := by
  have heq : ∀ (fn : Fn) (first cap : Array Value) (w : World), (binOp .eql 25 (.func fn first cap) .nilFunc).run Tryd.prog w = .ok (.bool false) w := fun _ _ _ _ => by kernel_rfl
  obtain ⟨n0, n1⟩ := u8_fits wm
  have hd := hide (fun r hr => (wa r hr).2)
  obtain ⟨pa, capa, rfl, hrec⟩ := id ha
  have ha0 := hide ha
  replace ha := hide ha
  replace hp := hide hp
  clear wa wm ws hrec
  refine (callsIn_wide (n := 5)).1 ?_
  refine callsIn_of_wp_marks Tryd.func3 rfl trivial ?_ rfl
  simp only [Tryd.ntmps3, List.size_toArray, List.length_cons, List.length_nil, Nat.reduceAdd, Nat.reduceSub, Array.replicate_succ, Array.replicate_zero, List.push_toArray, List.append_toArray, List.nil_append, List.cons_append]
  gi_wp2_with fail
  have b0 := Boxed.new w 22 (.slice pa l.length capa)
  obtain ⟨w1, hw1⟩ : ∃ w1, w.alloc (.cells #[.slice pa l.length capa] 22) = w1 := ⟨_, rfl⟩
  have s1 : w1.heap.size = w.heap.size + 1 := by rw [← hw1]; simp
  have b1 := Boxed.new w1 3 (.int .i64 site)
  obtain ⟨w2, hw2⟩ : ∃ w2, w1.alloc (.cells #[.int .i64 site] 3) = w2 := ⟨_, rfl⟩
  have s2 : w2.heap.size = w.heap.size + 2 := by rw [← hw2]; simp [s1]
  have b2 := Boxed.new w2 5 (.int .u8 most)
  obtain ⟨w3, hw3⟩ : ∃ w3, w2.alloc (.cells #[.int .u8 most] 5) = w3 := ⟨_, rfl⟩
  have s3 : w3.heap.size = w.heap.size + 3 := by rw [← hw3]; simp [s2]
  have b3 := Boxed.new w3 4 (.bool false)
  obtain ⟨w4, hw4⟩ : ∃ w4, w3.alloc (.cells #[.bool false] 4) = w4 := ⟨_, rfl⟩
  have s4 : w4.heap.size = w.heap.size + 4 := by rw [← hw4]; simp [s3]
  rw [hw1] at b0
  rw [hw2] at b1
  rw [hw3] at b2
  rw [hw4] at b3
  replace b0 : Boxed w4 w.heap.size 22 (.slice pa l.length capa) := by rw [← hw4, ← hw3, ← hw2]; exact ((b0.alloc _).alloc _).alloc _
  replace b1 : Boxed w4 (w.heap.size + 1) 3 (.int .i64 site) := by rw [s1] at b1; rw [← hw4, ← hw3]; exact (b1.alloc _).alloc _
  replace b2 : Boxed w4 (w.heap.size + 2) 5 (.int .u8 most) := by rw [s2] at b2; rw [← hw4]; exact b2.alloc _
  replace b3 : Boxed w4 (w.heap.size + 3) 4 (.bool false) := by rw [s3] at b3; exact b3
  have hB : Below w.heap.size w w4 := by
    rw [← hw4, ← hw3, ← hw2, ← hw1]
    exact ((((Below.refl _ w).alloc (Nat.le_refl _) _).alloc (by simp) _).alloc (by simp; omega) _).alloc (by simp; omega) _
  rw [hw1, hw2, hw3, hw4]
  clear hw1 hw2 hw3 hw4 s1 s2 s3 w1 w2 w3
  simp only [Nat.add_assoc, Nat.reduceAdd]
  replace ha := hide (ha.out.below hB)
  replace hp := hide (hp.out.below hB)
  refine ⟨trivial, (callsIn_wide (n := 4) |>.2 (recKnown_calls _ hp.out)).mono ?_⟩
  rintro e w5 ⟨rfl, hB1⟩
  replace ha := hide (ha.out.below hB1)
  replace b0 := boxed_of_heap b0 (hB1.block _ (by omega))
  replace b1 := boxed_of_heap b1 (hB1.block _ (by omega))
  replace b2 := boxed_of_heap b2 (hB1.block _ (by omega))
  replace b3 := boxed_of_heap b3 (hB1.block _ (by omega))
  have s5 : w.heap.size + 4 ≤ w5.heap.size := by have := hB1.size; omega
  replace hB := hB.trans (hB1.mono (by omega))
  clear hB1 hp s4 w4
  have c0 := b0.cell
  have c1 := b1.cell
  have c3 := b3.cell
  have f3 := b3.frozen
  by_cases h30 : l.length ≤ 30
  case neg =>
    have h30' : (30 : Int) < (l.length : Int) := by omega
    gi_wp2_with fail
    have Q0 := (b3.set (.bool true)).cell
    exact ⟨.bool true, by simp [results, Tryd.f3, go_sem, Q0], rfl, hB.setCell (p := ⟨w.heap.size + 3, 0, none⟩) (by simp) _⟩
  have h30' : ¬ (30 : Int) < (l.length : Int) := by omega
  gi_wp2_with fail
  refine ⟨trivial, (callsIn_wide (n := 4) |>.2 (of_calls _ l site _ ha.out (by omega) hd.out)).mono ?_⟩
  rintro e w6 ⟨v', pl, rfl, hOf, hpl, hB1⟩
  replace ha := hide (ha.out.below hB1)
  replace b0 := boxed_of_heap b0 (hB1.block _ (by omega))
  replace b1 := boxed_of_heap b1 (hB1.block _ (by omega))
  replace b2 := boxed_of_heap b2 (hB1.block _ (by omega))
  replace b3 := boxed_of_heap b3 (hB1.block _ (by omega))
  have s6 : w5.heap.size ≤ w6.heap.size := hB1.size
  replace hB := hB.trans (hB1.mono (by omega))
  clear hB1 c0 c1 c3 f3
  gi_wp2_with fail
  obtain ⟨W0, hW0⟩ : ∃ W0, (w6.alloc (.cells #[.int .i64 0] 3)).alloc (.cells #[.int .i64 0] 3) = W0 := ⟨_, rfl⟩
  have z0 : W0.heap.size = w6.heap.size + 2 := by rw [← hW0]; simp
  have b4 : Boxed W0 w6.heap.size 3 (.int .i64 ((0 : Nat) : Int)) := by rw [← hW0]; exact ((boxed_new' (by simp)).alloc _)
  have b5 : Boxed W0 (w6.heap.size + 1) 3 (.int .i64 ((0 : Nat) : Int)) := by rw [← hW0]; exact (boxed_new' (by simp))
  replace b0 : Boxed W0 w.heap.size 22 (.slice pa l.length capa) := by rw [← hW0]; exact (b0.alloc _).alloc _
  replace b1 : Boxed W0 (w.heap.size + 1) 3 (.int .i64 site) := by rw [← hW0]; exact (b1.alloc _).alloc _
  replace b2 : Boxed W0 (w.heap.size + 2) 5 (.int .u8 most) := by rw [← hW0]; exact (b2.alloc _).alloc _
  replace b3 : Boxed W0 (w.heap.size + 3) 4 (.bool false) := by rw [← hW0]; exact (b3.alloc _).alloc _
  have hB0 : Below w6.heap.size w6 W0 := by rw [← hW0]; exact ((Below.refl _ w6).alloc (Nat.le_refl _) _).alloc (by simp) _
  have hB6 := hB.size
  replace hB := hB.trans (hB0.mono (by omega))
  have hin := InOf.mk b0 b1 b2 b3 b4 b5
  rw [hW0]
  have hlp : pl.length ≤ 30 := by
    have h1 := congrArg List.length hpl
    have h2 := placedTo_length l site l.length
    rw [List.length_map] at h1
    omega
  have hpd : ∀ p ∈ pl, p.r.dep.length ≤ 17592186044416 := by
    intro p hp
    have h1 : (p.i, p.r) ∈ placedTo l site l.length := by rw [← hpl]; exact List.mem_map.2 ⟨p, hp, rfl⟩
    exact hd.out _ (placedTo_mem h1)
  clear hW0 b0 b1 b2 b3 b4 b5 ha
  refine range_lawR (by decide) (gf := 17) (lb := #[.pointer (some ⟨w5.heap.size, 0, none⟩)]) rfl (enters_of Tryd.func17 (by kernel_rfl) rfl)
    (of_stops 4 (by decide) w5.heap.size v' pl (by omega) hpd w6 W0 hOf hB0) keepsSpan_t (keepsSpan_b (by omega)) ?hE (fun _ => rfl)
    (fun pre W => (∃ k, k ≤ l.length ∧ pre.length = (placedTo l site k).length ∧ InOf w.heap.size w6.heap.size (.slice pa l.length capa) site most W k pre.length) ∧ Below w.heap.size w W)
    (fun c pre W => (c = .ret ∧ (Boxed W (w.heap.size + 3) 4 (.bool true) ∨ ¬ pre.map (fun p => (p.i, p.r)) <+: placedTo l site l.length)) ∧ Below w.heap.size w W)
    (OwnFrom.and (Own.from (fun s X Y row hs hg hr => by
      obtain ⟨k, h1, h2, h3⟩ := hs
      exact ⟨k, h1, h2, h3.keep fun k c t f e => own_keeps hg hr e⟩) _) (ownFrom_below (by omega) (by omega)))
    (fun c => OwnFrom.and (Own.from (fun pre X Y row hh hg hr => ⟨hh.1, hh.2.imp (fun h => boxed_own' hg hr h) id⟩) _) (ownFrom_below (by omega) (by omega)))
    ⟨⟨0, Nat.zero_le _, rfl, hin⟩, hB⟩
    (fun x A a' W => ∃ Bx va vc, Below A.heap.size A W ∧ x.vd = .slice va x.r.dep.length vc ∧ A.heap.size ≤ Bx ∧ W.heap[Bx]? = some (.cells #[.int .i64 x.r.site, .int .i64 x.r.seq, x.vd, .string x.r.key, .string x.r.val] 30 (0, 0)) ∧ W.ownsRow A.heap.size 3 1 x.vd x.r.dep.length (x.r.dep.map (Value.int .i64)) ∧ x.r.dep.length ≤ 17592186044416 ∧
      a' = { tmps := #[.slice pa l.length capa, .int .i64 site, .int .u8 most, .pointer (some ⟨w.heap.size, 0, none⟩), .pointer (some ⟨w.heap.size + 1, 0, none⟩), .pointer (some ⟨w.heap.size + 2, 0, none⟩), .pointer (some ⟨w.heap.size + 3, 0, none⟩), .func (.func 17) #[] #[.pointer (some ⟨w5.heap.size, 0, none⟩)], .pointer (some ⟨w6.heap.size, 0, none⟩), .pointer (some ⟨w6.heap.size + 1, 0, none⟩), .int .i64 x.i, .pointer (some ⟨Bx, 0, none⟩), .bool true, .bool false, .slice pa l.length capa, .int .i64 (l.length : Int), .bool (decide ((30 : Int) < (l.length : Int))), .slice pa l.length capa, .int .i64 site, .func (.func 17) #[] #[.pointer (some ⟨w5.heap.size, 0, none⟩)], .func (.func 17) #[] #[.pointer (some ⟨w5.heap.size, 0, none⟩)], .bool false, .func (.func 17) #[] #[.pointer (some ⟨w5.heap.size, 0, none⟩)], .int .i64 x.i, .agg #[.int .i64 x.r.site, .int .i64 x.r.seq, x.vd, .string x.r.key, .string x.r.val], undef, undef, undef, undef, undef, undef, undef, undef, undef, undef, undef, undef, undef, undef, undef, undef, undef, undef, undef, undef, undef, undef, undef, undef, undef, undef, undef, undef, undef, undef, undef, undef, undef, undef, undef, undef, undef, undef, undef, undef, undef, undef, undef, undef, undef, undef, undef, undef, undef, undef, undef, undef, undef, undef, undef, undef], defers := [] })
    ?hAp ?assign ?body ?done ?stop
  case hE => exact fun x A W h => keepsFrom_below h.1
  case hAp =>
    rintro x A a' W lq o o' ⟨Bx, va, vc, h1, h2, h3, h4, h6, h7, h5⟩ _ hAl hWl ho
    have hput : ∀ (k : Nat) (c : Array Value) (t : TypeId) (f : Nat × Nat), W.heap[k]? = some (Obj.cells c t f) → (W.putObj lq o').heap[k]? = W.heap[k]? := by
      intro k c t f hk
      have hne : lq ≠ k := by
        intro e
        rw [e, hk] at hWl
        cases hWl
        cases ho
      unfold World.putObj
      simp only [Array.getElem?_setIfInBounds]
      rw [if_neg hne]
    refine ⟨Bx, va, vc, below_put h1, h2, by simpa [World.putObj] using h3, (hput _ _ _ _ h4).trans h4, ?_, h7, h5⟩
    have := row_keep hput h6
    simpa [World.putObj] using this
  case assign =>
    rintro lq pre ⟨xi, ⟨xsite, xseq, xdep, xkey, xval⟩, xvd⟩ A W K hI hE hlt hK
    have hE2 := hE.2.1
    have hE1 := hE.1
    have hE3 := hE.2.2
    dsimp only [encPl] at *
    obtain ⟨xa, xc, rfl⟩ := ownsRow_slice hE2
    clear hE
    replace hK := hide hK
    have hz1 := hI.1.choose_spec.2.2.n.lt
    have hz2' := hE1.size
    have HE1 := hide hE1
    have HE2 := hide hE2
    clear hE1 hI hE2 hin hOf hpl hB hB0 heq hpd
    gi_wp2
    exact hK.out _ _ ⟨W.heap.size, xa, xc, HE1.out.alloc HE1.out.size _, rfl, HE1.out.size, World.alloc_heap_new W _, own_below HE2.out (box_below W _), hE3, rfl⟩ (keepsFrom_below (box_below W _)) (KeepsSpan.of_below (box_below W _) (by omega))
  case body =>
    clear hin hOf hpl hB hB0 heq hpd
    rintro lp pre ⟨xi, ⟨xsite, xseq, xdep, xkey, xval⟩, xvd⟩ A a' W ⟨⟨k, hk, hkl, hin0⟩, hBA⟩ ⟨Bx, xa, xc, hAW, hvd, hBx, hbx, hxo, hxl, rfl⟩ hlt
    dsimp only at hvd hbx hxo hxl ⊢
    subst hvd
    have hin := hin0.below hAW
    have hB := hBA.trans (hAW.mono hBA.size)
    have hsA := hin0.n.lt
    have HA := hide (fun (k' : Nat) (h : k' < l.length) => ha0.out.rec_at h)
    clear hin0 hBA hAW ha0
    gi_wp2_with fail
    gi_loopw [25] (fun _ wr => ∃ k', k' ≤ l.length ∧ pre.length = (placedTo l site k').length ∧ InOf w.heap.size w6.heap.size (.slice pa l.length capa) site most wr k' pre.length ∧ KeepsOthers W wr ∧ KeepsSpan w5.heap.size w6.heap.size W wr ∧ Below w.heap.size w wr ∧ wr.heap[Bx]? = some (.cells #[.int .i64 xsite, .int .i64 xseq, .slice xa xdep.length xc, .string xkey, .string xval] 30 (0, 0)) ∧ wr.ownsRow A.heap.size 3 1 (.slice xa xdep.length xc) xdep.length (xdep.map (Value.int .i64))) (fun _ wr => l.length - boxInt2 wr w6.heap.size)
    case atStart => exact ⟨k, hk, hkl, hin, KeepsOthers.refl _, fun _ _ _ => rfl, hB, hbx, hxo⟩
    case round =>
      clear hin hB hbx hxo hk hkl
      obtain ⟨k', hk', hkl', hin, hko, hks, hB, hbx, hxo⟩ := hrel
      have m1 := cell_regrown hin.k.cell
      have m2 := cell_regrown hin.l.cell
      have m3 := cell_regrown hin.s.cell
      have hwr := hin.n.lt
      have hmeas := boxInt2_of hin.k.cell
      replace hmeas := hide hmeas
      have hlen1 : pre.length ≤ 30 := by omega
      by_cases hlt' : k' < l.length
      case neg =>
        have hltI : ¬ (k' : Int) < (l.length : Int) := by omega
        have hbad := hide (placed_end (x := ⟨xi, ⟨xsite, xseq, xdep, xkey, xval⟩, .slice xa xdep.length xc⟩) (show k' = l.length by omega) hkl')
        replace hin := hide hin
        replace hko := hide hko
        replace hks := hide hks
        replace hB := hide hB
        clear hbx hxo hkl' hmeas m3
        gi_wp2_with fail
        refine wpIn_region_quiet_below_r (by kernel_rfl) (by kernel_rfl) (by kernel_rfl) ?_
        first | gi_big_quiet_step (fail) | quiet_step_in (fail)
        first | gi_big_quiet_step (fail) | quiet_step_in (fail)
        first | gi_big_quiet_step (fail) | quiet_step_in (fail)
        first | gi_big_quiet_step (fail) | quiet_step_in (fail)
        first | gi_big_quiet_step (fail) | quiet_step_in (fail)
        first | gi_big_quiet_step (fail) | quiet_step_in (fail)
        first | gi_big_quiet_step (fail) | quiet_step_in (fail)
        first | gi_big_quiet_step (fail) | quiet_step_in (fail)
        first | gi_big_quiet_step (fail) | quiet_step_in (fail)
        first | gi_big_quiet_step (fail) | quiet_step_in (fail)
        first | gi_big_quiet_step (fail) | quiet_step_in (fail)
        first | gi_big_quiet_step (fail) | quiet_step_in (fail)
        first | gi_big_quiet_step (fail) | quiet_step_in (fail)
        refine wpQuietIn_nil ?_
        intro _ hw'
        obtain ⟨⟨dq, osq⟩, hw''⟩ := hw'
        subst hw''
        have hb := below_regrown wr dq osq
        generalize grow (redrawn wr dq) osq = w7 at *
        clear m1 m2
        have hin1 := hin.out.below hb
        have m1 := cell_regrown hin1.k.cell
        have m2 := cell_regrown hin1.l.cell
        replace hin1 := hide hin1
        have HBq := hide hb
        clear hb
        gi_wp2_with fail
        refine wpIn_region_quiet_below_r (by kernel_rfl) (by kernel_rfl) (by kernel_rfl) ?_
        first | gi_big_quiet_step (fail) | quiet_step_in (fail)
        first | gi_big_quiet_step (fail) | quiet_step_in (fail)
        first | gi_big_quiet_step (fail) | quiet_step_in (fail)
        first | gi_big_quiet_step (fail) | quiet_step_in (fail)
        first | gi_big_quiet_step (fail) | quiet_step_in (fail)
        first | gi_big_quiet_step (fail) | quiet_step_in (fail)
        first | gi_big_quiet_step (fail) | quiet_step_in (fail)
        first | gi_big_quiet_step (fail) | quiet_step_in (fail)
        first | gi_big_quiet_step (fail) | quiet_step_in (fail)
        first | gi_big_quiet_step (fail) | quiet_step_in (fail)
        first | gi_big_quiet_step (fail) | quiet_step_in (fail)
        refine wpQuietIn_step (fun _ _ _ _ => trivial) (fun K hK => ?_)
        go_simp
        refine hK _ ?_
        clear hK K
        first | gi_big_quiet_step (fail) | quiet_step_in (fail)
        first | gi_big_quiet_step (fail) | quiet_step_in (fail)
        first | gi_big_quiet_step (fail) | quiet_step_in (fail)
        first | gi_big_quiet_step (fail) | quiet_step_in (fail)
        refine wpQuietIn_step (fun _ _ _ _ => trivial) (fun K hK => ?_)
        go_simp
        refine hK _ ?_
        clear hK K
        refine wpQuietIn_step (fun _ _ _ _ => trivial) (fun K hK => ?_)
        go_simp
        refine hK _ ?_
        clear hK K
        first | gi_big_quiet_step (fail) | quiet_step_in (fail)
        first | gi_big_quiet_step (fail) | quiet_step_in (fail)
        refine wpQuietIn_nil ?_
        intro _ hw'
        obtain ⟨⟨dq, osq⟩, hw''⟩ := hw'
        subst hw''
        have hb := below_regrown w7 dq osq
        generalize grow (redrawn w7 dq) osq = w8 at *
        have hin2 := hin1.out.below hb
        have f3 := hin2.r.frozen
        have c3 := hin2.r.cell
        clear m1 m2
        gi_wp2_with fail
        have HB1 := hB.out.trans (HBq.out.mono hB.out.size)
        have HB2 := HB1.trans (hb.mono HB1.size)
        exact ⟨(((hko.out.trans (keepsOthers_below HBq.out)).trans (keepsOthers_below hb)).trans (KeepsOthers.setCell _ _ _)).from _, ⟨rfl, .inr hbad.out⟩, HB2.setCell (p := ⟨w.heap.size + 3, 0, none⟩) (by simp) _⟩
      have hltI : (k' : Int) < (l.length : Int) := by omega
      obtain ⟨bq, off, rfl, hat⟩ := HA.out k' hlt'
      have hatr := hat.below hB
      have hdl := hd.out l[k'] (List.getElem_mem hlt')
      have hskip := hide (@placedTo_skip l site k' hlt')
      have htake := hide (@placedTo_take l site k' hlt')
      have hhere := hide (fun (hs : l[k'].site = site) => @placed_here l site pre ⟨xi, ⟨xsite, xseq, xdep, xkey, xval⟩, .slice xa xdep.length xc⟩ k' hlt' hs hkl')
      clear HA hat
      obtain ⟨r, hr⟩ : ∃ r, l[k'] = r := ⟨_, rfl⟩
      rw [hr] at hatr hdl hskip htake hhere
      obtain ⟨rsite, rseq, rdep, rkey, rval⟩ := r
      obtain ⟨ra, rcap, c0, c1, c2, c3, c4, hnum⟩ := hatr
      dsimp only at c0 c1 c2 c3 c4 hnum hdl
      clear hr
      have m4 := cell_regrown c0
      by_cases hs : rsite = site
      case neg =>
        have hs' : (rsite != site) = true := by simp [hs]
        replace hs := hide hs
        replace hin := hide hin
        replace hko := hide hko
        replace hks := hide hks
        replace hB := hide hB
        replace hbx := hide hbx
        replace hxo := hide hxo
        replace hkl' := hide hkl'
        clear c0 c1 c2 c3 c4 hnum
        gi_wp2_with fail
        refine wpIn_region_quiet_below_r (by kernel_rfl) (by kernel_rfl) (by kernel_rfl) ?_
        first | gi_big_quiet_step (fail) | quiet_step_in (fail)
        first | gi_big_quiet_step (fail) | quiet_step_in (fail)
        first | gi_big_quiet_step (fail) | quiet_step_in (fail)
        first | gi_big_quiet_step (fail) | quiet_step_in (fail)
        first | gi_big_quiet_step (fail) | quiet_step_in (fail)
        first | gi_big_quiet_step (fail) | quiet_step_in (fail)
        first | gi_big_quiet_step (fail) | quiet_step_in (fail)
        first | gi_big_quiet_step (fail) | quiet_step_in (fail)
        first | gi_big_quiet_step (fail) | quiet_step_in (fail)
        first | gi_big_quiet_step (fail) | quiet_step_in (fail)
        first | gi_big_quiet_step (fail) | quiet_step_in (fail)
        first | gi_big_quiet_step (fail) | quiet_step_in (fail)
        first | gi_big_quiet_step (fail) | quiet_step_in (fail)
        refine wpQuietIn_nil ?_
        intro _ hw'
        obtain ⟨⟨dq, osq⟩, hw''⟩ := hw'
        subst hw''
        have hb := below_regrown wr dq osq
        generalize grow (redrawn wr dq) osq = w7 at *
        clear m1 m2 m3 m4
        have hin1 := hin.out.below hb
        have d1 := hin1.k.cell
        have f1 := hin1.k.frozen
        replace hin1 := hide hin1
        have HBq := hide hb
        clear hb
        gi_wp2_with fail
        have HB1 := hB.out.trans (HBq.out.mono hB.out.size)
        refine ⟨⟨k' + 1, by omega, by rw [hskip.out hs.out]; exact hkl'.out, hin1.out.setK (by omega) (k' + 1), (hko.out.trans (keepsOthers_below HBq.out)).trans (KeepsOthers.setCell _ _ _), keepsSpan_t hks.out (keepsSpan_t (KeepsSpan.of_below HBq.out (by omega)) (keepsSpan_set (by omega) _)), HB1.setCell (p := ⟨w6.heap.size, 0, none⟩) (by simp; omega) _, (Below.heap_setCell _ _ _ _ (by simp only [ne_eq]; omega)).trans (keepB hbx.out HBq.out), row_set (own_below hxo.out HBq.out) (by omega) _⟩, ?_⟩
        rw [hmeas.out, show boxInt2 (w7.setCell ⟨w6.heap.size, 0, none⟩ (.int .i64 ((k' : Int) + 1))) w6.heap.size = k' + 1 from boxInt2_of (hin1.out.setK (by omega) (k' + 1)).k.cell]
        omega
      have hs' : (rsite != site) = false := by simp [hs]
      replace hs := hide hs
      replace hin := hide hin
      replace hko := hide hko
      replace hks := hide hks
      replace hB := hide hB
      replace hbx := hide hbx
      replace hxo := hide hxo
      replace hkl' := hide hkl'
      replace hnum := hide hnum
      replace c0 := hide c0
      replace c1 := hide c1
      replace c2 := hide c2
      replace c3 := hide c3
      replace c4 := hide c4
      gi_wp2_with fail
      refine wpIn_region_quiet_below_r (by kernel_rfl) (by kernel_rfl) (by kernel_rfl) ?_
      first | gi_big_quiet_step (fail) | quiet_step_in (fail)
      first | gi_big_quiet_step (fail) | quiet_step_in (fail)
      first | gi_big_quiet_step (fail) | quiet_step_in (fail)
      first | gi_big_quiet_step (fail) | quiet_step_in (fail)
      first | gi_big_quiet_step (fail) | quiet_step_in (fail)
      first | gi_big_quiet_step (fail) | quiet_step_in (fail)
      first | gi_big_quiet_step (fail) | quiet_step_in (fail)
      first | gi_big_quiet_step (fail) | quiet_step_in (fail)
      first | gi_big_quiet_step (fail) | quiet_step_in (fail)
      first | gi_big_quiet_step (fail) | quiet_step_in (fail)
      first | gi_big_quiet_step (fail) | quiet_step_in (fail)
      first | gi_big_quiet_step (fail) | quiet_step_in (fail)
      first | gi_big_quiet_step (fail) | quiet_step_in (fail)
      refine wpQuietIn_nil ?_
      intro _ hw'
      obtain ⟨⟨dq, osq⟩, hw''⟩ := hw'
      subst hw''
      have hb := below_regrown wr dq osq
      generalize grow (redrawn wr dq) osq = w7 at *
      clear m1 m2 m3 m4
      have hin1 := hin.out.below hb
      have m1 := cell_regrown hin1.k.cell
      have m2 := cell_regrown hin1.l.cell
      have hbl : bq < wr.heap.size := World.block_lt_of_cell? wr _ c0.out
      have l0 := cell_regrown ((hb.cell (p := ⟨bq, off + k' * 5, none⟩) hbl).trans c0.out)
      have l1 := cell_regrown ((hb.cell (p := ⟨bq, off + k' * 5 + 1, none⟩) hbl).trans c1.out)
      have l2 := cell_regrown ((hb.cell (p := ⟨bq, off + k' * 5 + 2, none⟩) hbl).trans c2.out)
      have l3 := cell_regrown ((hb.cell (p := ⟨bq, off + k' * 5 + 3, none⟩) hbl).trans c3.out)
      have l4 := cell_regrown ((hb.cell (p := ⟨bq, off + k' * 5 + 4, none⟩) hbl).trans c4.out)
      have hbx1 := keepB hbx.out hb
      have hxo1 := own_below hxo.out hb
      have hn1 := hnum.out.below hb
      have x0 := cell_regrown (cell_at hbx1 0)
      have x1 := cell_regrown (cell_at hbx1 1)
      have x2 := cell_regrown (cell_at hbx1 2)
      have x3 := cell_regrown (cell_at hbx1 3)
      have x4 := cell_regrown (cell_at hbx1 4)
      have rx := fun d os => (show IsRec (grow (redrawn w7 d) os) (.agg #[.int .i64 xsite, .int .i64 xseq, .slice xa xdep.length xc, .string xkey, .string xval]) ⟨xsite, xseq, xdep, xkey, xval⟩ from ⟨xa, xc, rfl, (IsNums.of_row hxo1).below (below_regrown w7 d os)⟩)
      have rl := fun d os => (show IsRec (grow (redrawn w7 d) os) (.agg #[.int .i64 rsite, .int .i64 rseq, .slice ra rdep.length rcap, .string rkey, .string rval]) ⟨rsite, rseq, rdep, rkey, rval⟩ from ⟨ra, rcap, rfl, hn1.below (below_regrown w7 d os)⟩)
      have q1 := hide (fun d os => recOfLaw_calls _ _ _ (rx d os))
      have q2 := hide (fun d os => recOfLaw_calls _ _ _ (rl d os))
      have q3 := hide (fun d os => refSameRec2_calls _ _ _ _ _ (rx d os) (rl d os) hxl hdl)
      have hHB1 := hide (hB.out.trans (hb.mono hB.out.size))
      have hko1 := hide (hko.out.trans (keepsOthers_below hb))
      have hks1 := hide (keepsSpan_t hks.out (KeepsSpan.of_below (lo := w5.heap.size) (hi := w6.heap.size) hb (by omega)))
      have hsz7 := hb.size
      replace hin1 := hide hin1
      clear hin hko hks hB hbx hxo hnum c0 c1 c2 c3 c4 hb hbx1 hxo1 hn1 rx rl
      gi_wp2_with fail
      by_cases hxi : xi = (k' : Int)
      case neg =>
        have hxi' : (xi != (k' : Int)) = true := by simp [hxi]
        have hbad : ¬ (pre ++ [(⟨xi, ⟨xsite, xseq, xdep, xkey, xval⟩, .slice xa xdep.length xc⟩ : Pl)]).map (fun p : Pl => (p.i, p.r)) <+: placedTo l site l.length := fun h => hxi (hhere.out hs.out h).1
        replace hbad := hide hbad
        clear hxi
        refine wpIn_region_quiet_below_r (by kernel_rfl) (by kernel_rfl) (by kernel_rfl) ?_
        first | gi_big_quiet_step (fail) | quiet_step_in (fail)
        first | gi_big_quiet_step (fail) | quiet_step_in (fail)
        first | gi_big_quiet_step (fail) | quiet_step_in (fail)
        first | gi_big_quiet_step (fail) | quiet_step_in (fail)
        first | gi_big_quiet_step (fail) | quiet_step_in (fail)
        first | gi_big_quiet_step (fail) | quiet_step_in (fail)
        first | gi_big_quiet_step (fail) | quiet_step_in (fail)
        first | gi_big_quiet_step (fail) | quiet_step_in (fail)
        first | gi_big_quiet_step (fail) | quiet_step_in (fail)
        first | gi_big_quiet_step (fail) | quiet_step_in (fail)
        first | gi_big_quiet_step (fail) | quiet_step_in (fail)
        refine wpQuietIn_step (fun _ _ _ _ => trivial) (fun K hK => ?_)
        go_simp
        refine hK _ ?_
        clear hK K
        first | gi_big_quiet_step (fail) | quiet_step_in (fail)
        first | gi_big_quiet_step (fail) | quiet_step_in (fail)
        first | gi_big_quiet_step (fail) | quiet_step_in (fail)
        first | gi_big_quiet_step (fail) | quiet_step_in (fail)
        refine wpQuietIn_step (fun _ _ _ _ => trivial) (fun K hK => ?_)
        go_simp
        refine hK _ ?_
        clear hK K
        refine wpQuietIn_step (fun _ _ _ _ => trivial) (fun K hK => ?_)
        go_simp
        refine hK _ ?_
        clear hK K
        first | gi_big_quiet_step (fail) | quiet_step_in (fail)
        first | gi_big_quiet_step (fail) | quiet_step_in (fail)
        refine wpQuietIn_nil ?_
        intro _ hw'
        obtain ⟨⟨dq, osq⟩, hw''⟩ := hw'
        subst hw''
        have hb := below_regrown w7 dq osq
        generalize grow (redrawn w7 dq) osq = w8 at *
        have hin2 := hin1.out.below hb
        have f3 := hin2.r.frozen
        have c3 := hin2.r.cell
        clear m1 m2 l0 l1 l2 l3 l4 x0 x1 x2 x3 x4 q1 q2 q3
        gi_wp2_with fail
        have HB2 := hHB1.out.trans (hb.mono hHB1.out.size)
        exact ⟨((hko1.out.trans (keepsOthers_below hb)).trans (KeepsOthers.setCell _ _ _)).from _, ⟨rfl, .inr hbad.out⟩, HB2.setCell (p := ⟨w.heap.size + 3, 0, none⟩) (by simp) _⟩
      have hxi' : (xi != (k' : Int)) = false := by simp [hxi]
      obtain ⟨sm, hsm⟩ : ∃ sm, sameR ⟨xsite, xseq, xdep, xkey, xval⟩ ⟨rsite, rseq, rdep, rkey, rval⟩ = sm := ⟨_, rfl⟩
      rw [hsm] at q3
      cases sm with
      | false =>
        have hbad : ¬ (pre ++ [(⟨xi, ⟨xsite, xseq, xdep, xkey, xval⟩, .slice xa xdep.length xc⟩ : Pl)]).map (fun p : Pl => (p.i, p.r)) <+: placedTo l site l.length := fun h => by
          have e := (hhere.out hs.out h).2
          rw [show (⟨xsite, xseq, xdep, xkey, xval⟩ : RecD) = _ from e, sameR_self] at hsm
          cases hsm
        replace hbad := hide hbad
        clear hxi hsm
        refine wpIn_region_quiet_below_r (by kernel_rfl) (by kernel_rfl) (by kernel_rfl) ?_
        first | gi_big_quiet_step (fail) | quiet_step_in (fail)
        first | gi_big_quiet_step (fail) | quiet_step_in (fail)
        first | gi_big_quiet_step (fail) | quiet_step_in (fail)
        first | gi_big_quiet_step (fail) | quiet_step_in (fail)
        first | gi_big_quiet_step (fail) | quiet_step_in (fail)
        first | gi_big_quiet_step (fail) | quiet_step_in (fail)
        first | gi_big_quiet_step (fail) | quiet_step_in (fail)
        first | gi_big_quiet_step (fail) | quiet_step_in (fail)
        first | gi_big_quiet_step (fail) | quiet_step_in (fail)
        first | gi_big_quiet_step (fail) | quiet_step_in (fail)
        first | gi_big_quiet_step (fail) | quiet_step_in (fail)
        refine wpQuietIn_step (fun _ _ _ _ => trivial) (fun K hK => ?_)
        go_simp
        apply Exists.intro
        refine ⟨fun _ => ?_, hK _ ?_⟩
        · exact regrown_round (q1.out _ _)
        clear hK K
        first | gi_big_quiet_step (fail) | quiet_step_in (fail)
        first | gi_big_quiet_step (fail) | quiet_step_in (fail)
        first | gi_big_quiet_step (fail) | quiet_step_in (fail)
        first | gi_big_quiet_step (fail) | quiet_step_in (fail)
        refine wpQuietIn_step (fun _ _ _ _ => trivial) (fun K hK => ?_)
        go_simp
        apply Exists.intro
        refine ⟨fun _ => ?_, hK _ ?_⟩
        · exact regrown_round (q2.out _ _)
        clear hK K
        refine wpQuietIn_step (fun _ _ _ _ => trivial) (fun K hK => ?_)
        go_simp
        apply Exists.intro
        refine ⟨fun _ => ?_, hK _ ?_⟩
        · exact regrown_round (q3.out _ _)
        clear hK K
        first | gi_big_quiet_step (fail) | quiet_step_in (fail)
        first | gi_big_quiet_step (fail) | quiet_step_in (fail)
        refine wpQuietIn_nil ?_
        intro _ hw'
        obtain ⟨⟨dq, osq⟩, hw''⟩ := hw'
        subst hw''
        have hb := below_regrown w7 dq osq
        generalize grow (redrawn w7 dq) osq = w8 at *
        have hin2 := hin1.out.below hb
        have f3 := hin2.r.frozen
        have c3 := hin2.r.cell
        clear m1 m2 l0 l1 l2 l3 l4 x0 x1 x2 x3 x4 q1 q2 q3
        gi_wp2_with fail
        have HB2 := hHB1.out.trans (hb.mono hHB1.out.size)
        exact ⟨((hko1.out.trans (keepsOthers_below hb)).trans (KeepsOthers.setCell _ _ _)).from _, ⟨rfl, .inr hbad.out⟩, HB2.setCell (p := ⟨w.heap.size + 3, 0, none⟩) (by simp) _⟩
      | true =>
        clear hxi hsm
        refine wpIn_region_quiet_below_r (by kernel_rfl) (by kernel_rfl) (by kernel_rfl) ?_
        first | gi_big_quiet_step (fail) | quiet_step_in (fail)
        first | gi_big_quiet_step (fail) | quiet_step_in (fail)
        first | gi_big_quiet_step (fail) | quiet_step_in (fail)
        first | gi_big_quiet_step (fail) | quiet_step_in (fail)
        first | gi_big_quiet_step (fail) | quiet_step_in (fail)
        first | gi_big_quiet_step (fail) | quiet_step_in (fail)
        first | gi_big_quiet_step (fail) | quiet_step_in (fail)
        first | gi_big_quiet_step (fail) | quiet_step_in (fail)
        first | gi_big_quiet_step (fail) | quiet_step_in (fail)
        first | gi_big_quiet_step (fail) | quiet_step_in (fail)
        first | gi_big_quiet_step (fail) | quiet_step_in (fail)
        refine wpQuietIn_step (fun _ _ _ _ => trivial) (fun K hK => ?_)
        go_simp
        apply Exists.intro
        refine ⟨fun _ => ?_, hK _ ?_⟩
        · exact regrown_round (q1.out _ _)
        clear hK K
        first | gi_big_quiet_step (fail) | quiet_step_in (fail)
        first | gi_big_quiet_step (fail) | quiet_step_in (fail)
        first | gi_big_quiet_step (fail) | quiet_step_in (fail)
        first | gi_big_quiet_step (fail) | quiet_step_in (fail)
        refine wpQuietIn_step (fun _ _ _ _ => trivial) (fun K hK => ?_)
        go_simp
        apply Exists.intro
        refine ⟨fun _ => ?_, hK _ ?_⟩
        · exact regrown_round (q2.out _ _)
        clear hK K
        refine wpQuietIn_step (fun _ _ _ _ => trivial) (fun K hK => ?_)
        go_simp
        apply Exists.intro
        refine ⟨fun _ => ?_, hK _ ?_⟩
        · exact regrown_round (q3.out _ _)
        clear hK K
        first | gi_big_quiet_step (fail) | quiet_step_in (fail)
        first | gi_big_quiet_step (fail) | quiet_step_in (fail)
        refine wpQuietIn_nil ?_
        intro _ hw'
        obtain ⟨⟨dq, osq⟩, hw''⟩ := hw'
        subst hw''
        have hb := below_regrown w7 dq osq
        generalize grow (redrawn w7 dq) osq = w8 at *
        have hin2 := hin1.out.below hb
        have d1 := hin2.k.cell
        have g1 := hin2.k.frozen
        have d2 := hin2.n.cell
        have g2 := hin2.n.frozen
        have d3 := hin2.m.cell
        have d4 := hin2.r.cell
        have g4 := hin2.r.frozen
        have hHB2 := hide (hHB1.out.trans (hb.mono hHB1.out.size))
        have hko2 := hide (hko1.out.trans (keepsOthers_below hb))
        have hks2 := hide (keepsSpan_t hks1.out (KeepsSpan.of_below (lo := w5.heap.size) (hi := w6.heap.size) hb (by omega)))
        have hsz8 := hb.size
        have hin3 := hide ((hin2.setK (by omega) (k' + 1)).setN (by omega) (pre.length + 1))
        clear m1 m2 l0 l1 l2 l3 l4 x0 x1 x2 x3 x4 q1 q2 q3 hin2 hb
        by_cases hm : most < (pre.length : Int) + 1
        · gi_wp2_with fail
          exact ⟨(((hko2.out.trans (KeepsOthers.setCell _ _ _)).trans (KeepsOthers.setCell _ _ _)).trans (KeepsOthers.setCell _ _ _)).from _, ⟨rfl, .inl (hin3.out.r.set _)⟩, ((hHB2.out.setCell (p := ⟨w6.heap.size, 0, none⟩) (by simp; omega) _).setCell (p := ⟨w6.heap.size + 1, 0, none⟩) (by simp; omega) _).setCell (p := ⟨w.heap.size + 3, 0, none⟩) (by simp) _⟩
        · gi_wp2_with fail
          refine ⟨((hko2.out.trans (KeepsOthers.setCell _ _ _)).trans (KeepsOthers.setCell _ _ _)).from _, keepsSpan_t hks2.out (keepsSpan_t (keepsSpan_set (by omega) _) (keepsSpan_set (by omega) _)), ⟨k' + 1, by omega, ?_, ?_⟩, (hHB2.out.setCell (p := ⟨w6.heap.size, 0, none⟩) (by simp; omega) _).setCell (p := ⟨w6.heap.size + 1, 0, none⟩) (by simp; omega) _⟩
          · rw [htake.out hs.out, List.length_append, List.length_append, hkl'.out]
            rfl
          · rw [List.length_append]
            exact hin3.out
  case done =>
    clear hin hOf hB hB0 heq hpd
    rintro D ys W hD hys ⟨⟨k, hk, hkl, hin⟩, hB⟩ hK
    have hyl : (placedTo l site l.length).length = (placedTo l site k).length := by
      have := congrArg List.length hys
      rw [hpl, List.length_map] at this
      omega
    clear hys hpl
    have HA := hide (fun (k' : Nat) (h : k' < l.length) => ha0.out.rec_at h)
    clear ha0
    gi_wp2_with fail
    gi_loopw [68] (fun _ wr => ∃ k', k' ≤ l.length ∧ (placedTo l site l.length).length = (placedTo l site k').length ∧ InOf w.heap.size w6.heap.size (.slice pa l.length capa) site most wr k' ys.length ∧ wr.heap[D]? = some (.deferred (some [])) ∧ Below w.heap.size w wr) (fun _ wr => l.length - boxInt2 wr w6.heap.size)
    case atStart => exact ⟨k, hk, hyl, hin, hK, hB⟩
    case round =>
      clear hin hB hK hk hkl hyl
      obtain ⟨k', hk', hkl', hin, hK, hB⟩ := hrel
      have hmeas := boxInt2_of hin.k.cell
      replace hmeas := hide hmeas
      have d1 := hin.k.cell
      have d2 := hin.l.cell
      have d4 := hin.r.cell
      have g4 := hin.r.frozen
      have hwr := hin.n.lt
      by_cases hlt' : k' < l.length
      · have hltI : (k' : Int) < (l.length : Int) := by omega
        obtain ⟨bq, off, rfl, hat⟩ := HA.out k' hlt'
        have hatr := hat.below hB
        obtain ⟨hns, hrest⟩ := placed_rest hlt' hkl'
        obtain ⟨r, hr⟩ : ∃ r, l[k'] = r := ⟨_, rfl⟩
        rw [hr] at hatr hns
        obtain ⟨rsite, rseq, rdep, rkey, rval⟩ := r
        obtain ⟨ra, rcap, c0, c1, c2, c3, c4, hnum⟩ := hatr
        dsimp only at c0 hns
        have hs' : (rsite == site) = false := by simp [hns]
        have m1 := cell_regrown hin.k.cell
        have m2 := cell_regrown hin.l.cell
        have m3 := cell_regrown hin.s.cell
        have m4 := cell_regrown c0
        replace hin := hide hin
        replace hB := hide hB
        replace hrest := hide hrest
        replace hK := hide hK
        clear HA hat hr c0 c1 c2 c3 c4 hnum hns hkl'
        gi_wp2_with fail
        refine wpIn_region_quiet_below_r (by kernel_rfl) (by kernel_rfl) (by kernel_rfl) ?_
        first | gi_big_quiet_step (fail) | quiet_step_in (fail)
        first | gi_big_quiet_step (fail) | quiet_step_in (fail)
        first | gi_big_quiet_step (fail) | quiet_step_in (fail)
        first | gi_big_quiet_step (fail) | quiet_step_in (fail)
        first | gi_big_quiet_step (fail) | quiet_step_in (fail)
        first | gi_big_quiet_step (fail) | quiet_step_in (fail)
        first | gi_big_quiet_step (fail) | quiet_step_in (fail)
        refine wpQuietIn_nil ?_
        intro _ hw'
        obtain ⟨⟨dq, osq⟩, hw''⟩ := hw'
        subst hw''
        have hb := below_regrown wr dq osq
        generalize grow (redrawn wr dq) osq = w7 at *
        clear m1 m2 m3 m4 d1 d2 d4 g4
        have hin1 := hin.out.below hb
        have d1 := hin1.k.cell
        have g1 := hin1.k.frozen
        replace hin1 := hide hin1
        have HBq := hide hb
        clear hb
        gi_wp2_with fail
        have HB1 := hB.out.trans (HBq.out.mono hB.out.size)
        refine ⟨⟨k' + 1, by omega, hrest.out, hin1.out.setK (by omega) (k' + 1), (Below.heap_setCell _ _ _ _ (by simp only [ne_eq]; omega)).trans (keepB hK.out HBq.out), HB1.setCell (p := ⟨w6.heap.size, 0, none⟩) (by simp; omega) _⟩, ?_⟩
        rw [hmeas.out, show boxInt2 (w7.setCell ⟨w6.heap.size, 0, none⟩ (.int .i64 ((k' : Int) + 1))) w6.heap.size = k' + 1 from boxInt2_of (hin1.out.setK (by omega) (k' + 1)).k.cell]
        omega
      · have hltI : ¬ (k' : Int) < (l.length : Int) := by omega
        clear HA
        replace hin := hide hin
        replace hB := hide hB
        replace hK := hide hK
        gi_wp2_with fail
        obtain ⟨W3, hW3⟩ : ∃ W3, wr.setCell ⟨w.heap.size + 3, 0, none⟩ (.bool true) = W3 := ⟨_, rfl⟩
        have hK3 : W3.heap[D]? = some (.deferred (some [])) := by rw [← hW3]; exact (Below.heap_setCell _ _ _ _ (by simp only [ne_eq]; omega)).trans hK.out
        have R5 : Boxed W3 (w.heap.size + 3) 4 (.bool true) := by rw [← hW3]; exact hin.out.r.set _
        have hB3 : Below w.heap.size w W3 := by rw [← hW3]; exact hB.out.setCell (p := ⟨w.heap.size + 3, 0, none⟩) (by simp) _
        rw [hW3]
        have hr : ∀ r, some D = some r → ∃ o : Obj, W3.heap[r]? = some o ∧ o.isCells = false := fun r e => by cases e; exact ⟨_, hK3, rfl⟩
        have Q0 := (boxed_own' (grownBy_putObj' W3 D (.deferred none)) hr R5).cell
        refine ⟨by simp, .inl ⟨_, _, rfl, run_takeDeferred hK3, ?_⟩⟩
        exact ⟨.bool true, by simp [results, Tryd.f3, go_sem, Q0], rfl, hB3.trans (belowK_b (w := w) (by omega) W3 D _ _ (by omega) hK3 rfl rfl)⟩
  case stop =>
    rintro D c pre W hD hpre ⟨⟨rfl, h | h⟩, hB⟩ hK
    · have hr : ∀ r, some D = some r → ∃ o : Obj, W.heap[r]? = some o ∧ o.isCells = false := fun r e => by cases e; exact ⟨_, hK, rfl⟩
      have Q0 := (boxed_own' (grownBy_putObj' W D (.deferred none)) hr h).cell
      clear hin hOf hpl hB0 heq hpd hpre
      gi_wp2
      refine ⟨by simp, .inl ⟨_, _, rfl, run_takeDeferred hK, ?_⟩⟩
      exact ⟨.bool true, by simp [results, Tryd.f3, go_sem, Q0], rfl, hB.trans (belowK_b (w := w) (by omega) W D _ _ (by omega) hK rfl rfl)⟩
    · rw [hpl] at hpre
      exact absurd hpre h

end Go.Proofs.YthpahkcncjieiaaDoor
