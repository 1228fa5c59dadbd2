/- stripe's Positions: its sequence. Own work; no statement. -/
import Derived.Test.YtndhkbmgpjjepaaDoorM11
set_option linter.unusedSimpArgs false
set_option linter.unusedVariables false
namespace Go.Proofs.YtndhkbmgpjjepaaDoor
open Go.RowKit Go.Shelf

attribute [local go_sem] Oper.semAt_some

/-- How many there are in the first j parts. -/
def cntP (ps : List (List Int)) (j : Nat) : Nat := ((ps.take j).flatten).length
theorem cntP_succ (ps : List (List Int)) (j : Nat) (h : j < ps.length) : cntP ps (j + 1) = cntP ps j + ps[j].length := by
  unfold cntP
  rw [List.take_add_one, List.getElem?_eq_getElem h, Option.toList_some, List.flatten_append]
  simp
theorem cntP_all (ps : List (List Int)) : cntP ps ps.length = ps.flatten.length := by
  unfold cntP
  rw [List.take_length]
theorem flat_get (ps : List (List Int)) (j i : Nat) (hj : j < ps.length) (hi : i < ps[j].length) : ∃ h : cntP ps j + i < ps.flatten.length, ps.flatten[cntP ps j + i] = ps[j][i] := by
  have e : ps = ps.take j ++ ps[j] :: ps.drop (j + 1) := by rw [← List.drop_eq_getElem_cons hj, List.take_append_drop]
  have e2 : ps.flatten = (ps.take j).flatten ++ (ps[j] ++ (ps.drop (j + 1)).flatten) := by
    have := congrArg List.flatten e
    rw [List.flatten_append, List.flatten_cons] at this
    exact this
  have hlen : cntP ps j + i < ps.flatten.length := by
    rw [e2]
    unfold cntP
    simp
    omega
  refine ⟨hlen, ?_⟩
  apply Option.some.inj
  rw [← List.getElem?_eq_getElem hlen, ← List.getElem?_eq_getElem hi, e2]
  unfold cntP
  rw [List.getElem?_append_right (by omega), Nat.add_sub_cancel_left, List.getElem?_append_left hi]

/-- The positions of a stripe, epoch by epoch. -/
def partsL (m : MapD) (k a e : Int) : List (List Int) := (endedL m e).map fun y => dealtL y.1 k a y.2
/-- The positions of a stripe. -/
def posL (m : MapD) (k a e : Int) : List Int := (partsL m k a e).flatten
theorem partsL_length (m : MapD) (k a e : Int) : (partsL m k a e).length = (endedL m e).length := by simp [partsL]

set_option maxRecDepth 100000 in
set_option maxHeartbeats 4000000 in
theorem positions_seq (n : Nat) (hn : n = 8) (b : Nat) (v : Value) (m : MapD) (k a e : Int) (w : World) (hp : IsPos w b v m k a e) (hl : m.length ≤ 1099511627776) (hm : ∀ i (h : i < m.length), 0 ≤ m[i].1 ∧ m[i].1 ≤ 9223372036854775807 ∧ 1 ≤ m[i].2 ∧ m[i].2 ≤ 8)
    (hk : -1048576 ≤ k ∧ k ≤ 1048576) (ha : 0 ≤ a ∧ a ≤ 1048576) (he : 0 ≤ e ∧ e ≤ 1048576) :
    SeqT n Tryd.prog 32 #[.pointer (some ⟨b + 3, 0, none⟩), .pointer (some ⟨b + 2, 0, none⟩), .pointer (some ⟨b, 0, none⟩), .pointer (some ⟨b + 1, 0, none⟩)] encInt (onPos b v) (posL m k a e) w := by
  subst hn
  intro lp J Jx W hW hJo hJxo hJT hY h0
  have hbw := hp.lt (c := b) (.inl ⟨by omega, by omega⟩)
  have hp := hp.below hW
  have hsW := hW.size
  obtain ⟨va, cap, rfl⟩ := ownsRow_slice hp.row
  have hY2 : ∀ j i T A (hj : j < (partsL m k a e).length) (hi : i < (partsL m k a e)[j].length), J (cntP (partsL m k a e) j + i) T A → ∀ n', YieldAt Fence.wide n' Tryd.prog lp (encInt (partsL m k a e)[j][i]) A fun en C => (en = .returned (.bool true) ∧ (∃ T', J (cntP (partsL m k a e) j + i + 1) T' C ∧ KT W.heap.size T A T' C) ∧ KeepsB (onPos b (.slice va m.length cap)) A C) ∨ (en = .returned (.bool false) ∧ Jx (cntP (partsL m k a e) j + i) C ∧ KeepsFrom W.heap.size A C) := by
    intro j i T A hj hi hJ n'
    obtain ⟨h1, h2⟩ := flat_get _ j i hj hi
    have := hY _ h1 T A hJ
    rw [show (posL m k a e)[cntP (partsL m k a e) j + i]'h1 = (partsL m k a e)[j][i] from h2] at this
    exact yield_any n' this
  have HY := hide hY2
  have Hp := hide hp
  have HJ := hide hJo
  have HJx := hide hJxo
  have HJT := hide hJT
  have Hm := hide hm
  have c0 := hp.bk.cell
  have c1 := hp.ba.cell
  have c2 := (hp.be.alloc (.cells #[.func (.yield lp) #[] #[]] 72)).cell
  have c3 := (hp.bm.alloc (.cells #[.func (.yield lp) #[] #[]] 72)).cell
  clear hY hY2 hp hJo hJxo hJT hm hW
  refine callsIn_of_wp_marks Tryd.func32 rfl trivial ?_ rfl
  simp only [Tryd.ntmps32, List.size_toArray, List.length_cons, List.length_nil, Nat.reduceAdd, Nat.reduceSub, Array.replicate_succ, Array.replicate_zero, List.push_toArray, List.append_toArray, List.nil_append, List.cons_append]
  gi_wp2_with (refine ⟨trivial, ?_⟩; gi_at_call 33; refine ((callsIn_wide (n := _)).2 (ended_calls _ _ _ _ _)).mono ?_; rintro en w' ⟨rfl, rfl⟩)
  (try simp only [Nat.add_assoc, Nat.reduceAdd])
  obtain ⟨W3, hW3⟩ : ∃ W3, (((W.alloc (.cells #[.func (.yield lp) #[] #[]] 72)).alloc (.cells #[.slice va m.length cap] 23)).alloc (.cells #[.int .i64 e] 3)) = W3 := ⟨_, rfl⟩
  have s3 : W3.heap.size = W.heap.size + 3 := by rw [← hW3]; simp
  have y0 : Boxed W3 W.heap.size 72 (.func (.yield lp) #[] #[]) := by rw [← hW3]; exact ((boxed_new' (by simp)).alloc _).alloc _
  have y1 : Boxed W3 (W.heap.size + 1) 23 (.slice va m.length cap) := by rw [← hW3]; exact (boxed_new' (by simp)).alloc _
  have y2 : Boxed W3 (W.heap.size + 2) 3 (.int .i64 e) := by rw [← hW3]; exact (boxed_new' (by simp))
  have hB3 : Below W.heap.size W W3 := by
    rw [← hW3]
    exact (((Below.refl _ W).alloc (Nat.le_refl _) _).alloc (by simp) _).alloc (by simp; omega) _
  have hp3 := Hp.out.below hB3
  have hj3 : ∃ T, J 0 T W3 ∧ ∀ c, T c → c < W.heap.size := by
    obtain ⟨T, hT⟩ := h0
    refine ⟨T, ?_, HJT.out 0 T W hT⟩
    rw [← hW3]
    exact (HJ.out T).alloc _ ((HJ.out T).alloc _ ((HJ.out T).alloc _ hT))
  rw [hW3]
  clear hW3 c2 c3 c0 c1 h0
  have hpW : ∀ c, onPos b (.slice va m.length cap) c → c < W.heap.size := fun c hc => Hp.out.lt hc
  obtain ⟨s, hs⟩ : ∃ s, W.heap.size = s := ⟨_, rfl⟩
  rw [hs] at HY HJ HJx s3 y0 y1 y2 hj3 hpW hsW ⊢
  have hE3 : IsEnded W3 (s + 1) (.slice va m.length cap) m e := ⟨y1, by rw [Nat.add_assoc]; exact y2, hp3.row⟩
  clear hB3 hs y1 y2 Hp
  refine range_lawO (α := (Int × Int) × Int) (by decide) (gf := 39) (lb := #[.pointer (some ⟨s + 1, 0, none⟩), .pointer (some ⟨s + 2, 0, none⟩)]) rfl (enters_of Tryd.func39 (by kernel_rfl) rfl)
    (ended_seq 7 (by decide) (s + 1) (.slice va m.length cap) m e W3 hE3 hl) keepsB_t (keepsB_b fun c hc => hE3.lt hc) (fun _ => rfl)
    (fun j X => (∃ T, J (cntP (partsL m k a e) j) T X ∧ ∀ c, s ≤ c → c < s + 3 → ¬ T c) ∧ (∀ c, s ≤ c → c < s + 3 → X.heap[c]? = W3.heap[c]?) ∧ KeepsB (onPos b (.slice va m.length cap)) W3 X ∧ s + 3 ≤ X.heap.size)
    (fun c _ X => c = .ret ∧ ∃ i, i < (posL m k a e).length ∧ Jx i X)
    ?hI ?hIx ?h0
    (fun x a' X => ∃ Bx, s + 3 ≤ Bx ∧ X.heap[Bx]? = some (.cells #[.int .i64 x.1.1, .int .i64 x.1.2] 48 (0, 0)) ∧ a' = { tmps := #[.func (.yield lp) #[] #[], .pointer (some ⟨b + 3, 0, none⟩), .pointer (some ⟨b + 2, 0, none⟩), .pointer (some ⟨b, 0, none⟩), .pointer (some ⟨b + 1, 0, none⟩), .pointer (some ⟨s, 0, none⟩), .pointer (some ⟨Bx, 0, none⟩), .int .i64 x.2, undef, .slice va m.length cap, .int .i64 e, .func (.func 39) #[] #[.pointer (some ⟨s + 1, 0, none⟩), .pointer (some ⟨s + 2, 0, none⟩)], .agg #[.int .i64 x.1.1, .int .i64 x.1.2], .int .i64 x.2, undef, undef, undef, undef, undef, undef, undef, undef, undef, undef], defers := [] })
    ?hAx ?assign ?body ?done ?stop
  case hI =>
    rintro j X Y row ⟨⟨T, h1, h2⟩, h3, h4, h5⟩ hg hr
    refine ⟨⟨T, OwnFrom.up (HJ.out T) (show s ≤ W3.heap.size by omega) _ X Y row h1 hg hr, h2⟩, fun c hc1 hc2 => (hg.block c (by omega) fun e => by have := (hr _ e.symm).1; omega).trans (h3 c hc1 hc2), fun c hc => (hg.block c (by have := hpW c hc; omega) fun e => by have := (hr _ e.symm).1; have := hpW c hc; omega).trans (h4 c hc), Nat.le_trans h5 hg.size⟩
  case hIx =>
    rintro c j X Y row ⟨h1, i, h2, h3⟩ hg hr
    exact ⟨h1, i, h2, OwnFrom.up HJx.out (show s ≤ W3.heap.size by omega) _ X Y row h3 hg hr⟩
  case h0 =>
    obtain ⟨T, h1, h2⟩ := hj3
    exact ⟨⟨T, h1, fun c hc1 _ hc => by have := h2 c hc; omega⟩, fun _ _ _ => rfl, fun _ _ => rfl, by omega⟩
  case hAx =>
    rintro x a' _ X Y row ⟨Bx, h1, h2, h3⟩ hg hr
    exact ⟨Bx, h1, (own_keeps hg (fun r e => (hr r e).2) h2).trans h2, h3⟩
  case assign =>
    rintro l j hj X K ⟨⟨T, h1, h2⟩, h3, h4, h5⟩ hK
    rw [endedL_get] at hK ⊢
    generalize m.getD j (0, 0) = xk at *
    generalize endM m e j = ek at *
    obtain ⟨p, q⟩ := xk
    dsimp only [encSpan] at *
    gi_wp2
    refine hK _ _ ((KeepsOthers.alloc _ _).from _) (fun c hc => Below.heap_alloc _ _ _ ?_) ⟨⟨T, (HJ.out T).alloc _ h1, h2⟩, fun c hc1 hc2 => (Below.heap_alloc _ _ _ (by omega)).trans (h3 c hc1 hc2), fun c hc => (Below.heap_alloc _ _ _ (by have := hpW c hc; omega)).trans (h4 c hc), by simp; omega⟩ ⟨X.heap.size, by omega, World.alloc_heap_new X _, rfl⟩
    have := hE3.lt hc
    omega
  case body =>
    rintro l j hj a' X hl1 ⟨r1, hr1⟩ ⟨⟨T, hJ, hT⟩, h3, h4, h5⟩ ⟨Bx, hBx, hbx, rfl⟩
    have hjm : j < m.length := by rw [endedL_length] at hj; exact hj
    have hjp : j < (partsL m k a e).length := by rw [partsL_length]; exact hj
    have hpj : (partsL m k a e)[j] = dealtL (m.getD j (0, 0)) k a (endM m e j) := by simp [partsL, endedL_get]
    have hcs := hide (cntP_succ (partsL m k a e) j hjp)
    have hxw : 0 ≤ (m.getD j (0, 0)).1 ∧ (m.getD j (0, 0)).1 ≤ 9223372036854775807 ∧ 1 ≤ (m.getD j (0, 0)).2 ∧ (m.getD j (0, 0)).2 ≤ 8 := by
      rw [List.getD_eq_getElem?_getD, List.getElem?_eq_getElem hjm]
      exact Hm.out j hjm
    have hew : 0 ≤ endM m e j ∧ endM m e j ≤ 1048576 := by
      unfold endM
      split
      · rename_i hjn
        rw [List.getD_eq_getElem?_getD, List.getElem?_eq_getElem hjn, Option.getD_some]
        have := Hm.out (j + 1) hjn
        omega
      · exact he
    have hfl := hide (fun i hi => flat_get (partsL m k a e) j i hjp hi)
    rw [endedL_get] at hbx ⊢
    have HYj := hide (fun i T A hi hJ n' => HY.out j i T A hjp hi hJ n')
    rw [hpj] at hcs hfl HYj
    obtain ⟨cj, hcj⟩ : ∃ cj, cntP (partsL m k a e) j = cj := ⟨_, rfl⟩
    rw [hcj] at hcs hfl HYj hJ
    generalize m.getD j (0, 0) = xk at *
    generalize endM m e j = ek at *
    obtain ⟨p, q⟩ := xk
    dsimp only [encSpan] at *
    have hp4 := hp3.keep h4
    have c0 := hp4.bk.cell
    have c1 := hp4.ba.cell
    have cb0 := cellsAt hbx 0
    have cb1 := cellsAt hbx 1
    simp only [List.getElem?_toArray, List.getElem?_cons_zero, List.getElem?_cons_succ] at cb0 cb1
    have hTX := HJT.out _ T X hJ
    have Hpj := hide hpj
    clear hpj HY hcj
    gi_wp2_with (refine ⟨trivial, ?_⟩; gi_at_call 34; refine (CallsIn.inRound l ((callsIn_wide (n := _)).2 (dealt_calls (p, q) k a ek X))).mono ?_; rintro en w' ⟨rfl, rfl⟩)
    obtain ⟨X4, hX4⟩ : ∃ X4, ((((X.alloc (.cells #[.int .i64 p, .int .i64 q] 48)).alloc (.cells #[.int .i64 k] 3)).alloc (.cells #[.int .i64 a] 3)).alloc (.cells #[.int .i64 ek] 3)) = X4 := ⟨_, rfl⟩
    have s4 : X4.heap.size = X.heap.size + 4 := by rw [← hX4]; simp
    have d4 : IsDealt X4 X.heap.size (p, q) k a ek := by
      rw [← hX4]
      exact ⟨(Below.heap_alloc _ _ _ (by simp; omega)).trans ((Below.heap_alloc _ _ _ (by simp; omega)).trans ((Below.heap_alloc _ _ _ (by simp)).trans (World.alloc_heap_new X _))), ((boxed_new' (by simp)).alloc _).alloc _, (boxed_new' (by simp)).alloc _, boxed_new' (by simp)⟩
    have hB4 : Below X.heap.size X X4 := by
      rw [← hX4]
      exact ((((Below.refl _ X).alloc (Nat.le_refl _) _).alloc (by simp) _).alloc (by simp; omega) _).alloc (by simp; omega) _
    have hJ4 : J cj T X4 := by rw [← hX4]; exact (HJ.out T).alloc _ ((HJ.out T).alloc _ ((HJ.out T).alloc _ ((HJ.out T).alloc _ hJ)))
    have hr4 : X4.heap[l]? = some (.loop r1) := (hB4.block l (ltAt hr1)).trans hr1
    have g4 : KeepsB (onPos b (.slice va m.length cap)) W3 X4 := fun c hc => (hB4.block c (by have := hpW c hc; omega)).trans (h4 c hc)
    have o4 : ∀ c, s ≤ c → c < s + 3 → X4.heap[c]? = W3.heap[c]? := fun c hc1 hc2 => (hB4.block c (by omega)).trans (h3 c hc1 hc2)
    (try simp only [Nat.add_assoc, Nat.reduceAdd])
    rw [hX4]
    clear hX4 c0 c1 cb0 cb1 hbx h3 h4 hp4 hJ
    refine range_lawN (α := Int) (l₀ := l) (r₀ := r1) hr4 (by decide) (gf := 40) (lb := #[.pointer (some ⟨X.heap.size + 2, 0, none⟩), .pointer (some ⟨X.heap.size, 0, none⟩), .pointer (some ⟨X.heap.size + 1, 0, none⟩), .pointer (some ⟨X.heap.size + 3, 0, none⟩)]) rfl (enters_of Tryd.func40 (by kernel_rfl) rfl)
      (dealt_seq 5 (by decide) X.heap.size (p, q) k a ek X4 d4 hxw hk ha hew) keepsB_t (keepsB_b fun c hc => by omega) (fun _ => rfl)
      (fun i Z => ∃ T', J (cj + i) T' Z ∧ KT s T X4 T' Z ∧ KeepsB (onPos b (.slice va m.length cap)) X4 Z)
      (fun c i Z => c = .ret ∧ Jx (cj + i) Z ∧ KeepsFrom s X4 Z)
      ?hI2 ?hIx2 ⟨T, hJ4, KT.refl _ _ _, fun _ _ => rfl⟩
      (fun y => { tmps := #[.func (.yield lp) #[] #[], .pointer (some ⟨b + 3, 0, none⟩), .pointer (some ⟨b + 2, 0, none⟩), .pointer (some ⟨b, 0, none⟩), .pointer (some ⟨b + 1, 0, none⟩), .pointer (some ⟨s, 0, none⟩), .pointer (some ⟨Bx, 0, none⟩), .int .i64 ek, .int .i64 y, .slice va m.length cap, .int .i64 e, .func (.func 39) #[] #[.pointer (some ⟨s + 1, 0, none⟩), .pointer (some ⟨s + 2, 0, none⟩)], .agg #[.int .i64 p, .int .i64 q], .int .i64 ek, .agg #[.int .i64 p, .int .i64 q], .int .i64 k, .int .i64 a, .int .i64 ek, .func (.func 40) #[] #[.pointer (some ⟨X.heap.size + 2, 0, none⟩), .pointer (some ⟨X.heap.size, 0, none⟩), .pointer (some ⟨X.heap.size + 1, 0, none⟩), .pointer (some ⟨X.heap.size + 3, 0, none⟩)], .int .i64 y, undef, undef, undef, undef], defers := [] })
      ?assign2 ?body2 ?done2 ?stop2
    case hI2 =>
      rintro i Z Z' row ⟨T', g1, g2, g3⟩ hg hr
      exact ⟨T', OwnFrom.up (HJ.out T') (show s ≤ X4.heap.size by omega) _ Z Z' row g1 hg hr, KT.own (β := Unit) (Nat.le_refl _) (T', ()) Z Z' row g2 hg hr, fun c hc => (hg.block c (by have := hpW c hc; have := g2.keep.size; omega) fun e => by have := (hr _ e.symm).1; have := hpW c hc; omega).trans (g3 c hc)⟩
    case hIx2 =>
      rintro c i Z Z' row ⟨g1, g2, g3⟩ hg hr
      exact ⟨g1, OwnFrom.up HJx.out (show s ≤ X4.heap.size by omega) _ Z Z' row g2 hg hr, ownFrom_keepsFrom (β := Unit) (Nat.le_refl _) () Z Z' row g3 hg hr⟩
    case assign2 =>
      intro l2 y Z K hK
      dsimp only [encInt]
      gi_wp2
      exact hK
    case body2 =>
      rintro l2 i hi Z ⟨T', g1, g2, g3⟩
      have hsz := g2.keep.size
      have hTs : ∀ c, s ≤ c → (c < s + 3 ∨ X.heap.size ≤ c) → c < X4.heap.size → ¬ T' c := fun c hc1 hc2 hc3 hc => by
        have hc := g2.old c hc3 hc
        rcases hc2 with h | h
        · exact hT c hc1 h hc
        · have := hTX c hc
          omega
      have yb : Boxed Z s 72 (.func (.yield lp) #[] #[]) := boxed_of_heap y0 ((g2.same s (Nat.le_refl _) (by omega) (fun hc => hT s (Nat.le_refl _) (by omega) hc)).trans (o4 s (Nat.le_refl _) (by omega)))
      have cy := yb.cell
      obtain ⟨fn, tmps, assign, body, hy, hR⟩ := HYj.out i T' Z hi g1 (8 - 1 - 1 - 1 - 1 - 1)
      generalize (dealtL (p, q) k a ek)[i] = y at *
      dsimp only [encInt] at hy
      clear yb
      gi_wp2
      refine RoundIn.mono (show RoundIn (Fence.wide.inRound l2) _ _ _ _ _ _ _ _ _ from hR) ?_
      rintro en Z3 (⟨rfl, ⟨T3, hJ3, hk3⟩, hg3⟩ | ⟨rfl, hJx3, hk3⟩)
      · gi_wp2
        exact ⟨(hk3.mono (show s ≤ X4.heap.size by omega)).keep, fun c hc => hk3.same c (by omega) (by omega) (hTs c (by omega) (.inr hc.1) (by omega)), T3, by rw [← Nat.add_assoc]; exact hJ3, g2.trans hk3, keepsB_t g3 hg3⟩
      · gi_wp2
        exact ⟨⟨hk3.size, fun c o hc => hk3.same c o (by omega)⟩, rfl, hJx3, g2.keep.trans hk3⟩
    case done2 =>
      rintro Z ⟨T', g1, g2, g3⟩
      gi_wp2
      have hsz := g2.keep.size
      have kf : KeepsFrom W3.heap.size X Z := ((keeps_of_below hB4).from _).trans ⟨hsz, fun c o hc => g2.keep.same c o (by omega)⟩
      refine ⟨kf, ?_, ⟨T', ?_, ?_⟩, ?_, keepsB_t g4 g3, by omega⟩
      · intro c hc
        rcases hc with rfl | rfl | hc
        · exact (g2.same (s + 1) (by omega) (by omega) (hT _ (by omega) (by omega))).trans (hB4.block _ (by omega))
        · exact (g2.same (s + 1 + 1) (by omega) (by omega) (hT _ (by omega) (by omega))).trans (hB4.block _ (by omega))
        · exact (g3 c (.inr hc)).trans (hB4.block c (by have := hpW c (.inr hc); omega))
      · rw [hcs.out]
        exact g1
      · intro c hc1 hc2 hc
        exact hT c hc1 hc2 (g2.old c (by omega) hc)
      · intro c hc1 hc2
        exact (g2.same c hc1 (by omega) (hT c hc1 hc2)).trans (o4 c hc1 hc2)
    case stop2 =>
      rintro c i Z hi ⟨rfl, g2, g3⟩
      gi_wp2
      have hsz := g3.size
      obtain ⟨hfi, -⟩ := hfl.out i hi
      exact ⟨((keeps_of_below hB4).from _).trans ⟨hsz, fun c o hc => g3.same c o (by omega)⟩, rfl, cj + i, hfi, g2⟩
  case done =>
    rintro D X hD ⟨⟨T, hJ, hT⟩, h3, h4, h5⟩ hK
    gi_wp2
    refine ⟨by simp, .inl ⟨_, _, rfl, run_takeDeferred hK, ?_⟩⟩
    refine ⟨_, results_none rfl _ _ _, ⟨_, rfl⟩, .inl ⟨T, ?_⟩⟩
    rw [← partsL_length (k := k) (a := a), cntP_all] at hJ
    exact (HJ.out T).putObj _ hJ (by omega) hK rfl
  case stop =>
    rintro D c j X hD hj ⟨rfl, i, hi, hx⟩ hK
    gi_wp2
    refine ⟨by simp, .inl ⟨_, _, rfl, run_takeDeferred hK, ?_⟩⟩
    exact ⟨_, results_none rfl _ _ _, ⟨_, rfl⟩, .inr ⟨i, hi, HJx.out.putObj _ hx (by omega) hK rfl⟩⟩

end Go.Proofs.YtndhkbmgpjjepaaDoor
