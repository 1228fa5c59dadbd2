/- Own work: the parts M12, M13, W10, W15, M14, Plain, Words, Words2 of the proof, laid together. -/
import Derived.Test.YtndhkbmgpjjepaaDoorPartMapParts4
import Derived.Test.YtndhkbmgpjjepaaDoorPartMapParts2
/- stripe's Positions: its sequence. Own work; no statement. -/
set_option linter.unusedSimpArgs false
set_option linter.unusedVariables false
namespace Go.Proofs.YtndhkbmgpjjepaaDoor
open Go.RowKit Go.Shelf

attribute [local go_sem] Oper.semAt_some

/-- How many there are in the first j parts. -/
def cntP (ps : List (List Int)) (j : Nat) : Nat := ((ps.take j).flatten).length
theorem cntP_succ (ps : List (List Int)) (j : Nat) (h : j < ps.length) : cntP ps (j + 1) = cntP ps j + ps[j].length := by
  unfold cntP
  rw [List.take_add_one, List.getElem?_eq_getElem h, Option.toList_some, List.flatten_append]
  simp
theorem cntP_all (ps : List (List Int)) : cntP ps ps.length = ps.flatten.length := by
  unfold cntP
  rw [List.take_length]
theorem flat_get (ps : List (List Int)) (j i : Nat) (hj : j < ps.length) (hi : i < ps[j].length) : ∃ h : cntP ps j + i < ps.flatten.length, ps.flatten[cntP ps j + i] = ps[j][i] := by
  have e : ps = ps.take j ++ ps[j] :: ps.drop (j + 1) := by rw [← List.drop_eq_getElem_cons hj, List.take_append_drop]
  have e2 : ps.flatten = (ps.take j).flatten ++ (ps[j] ++ (ps.drop (j + 1)).flatten) := by
    have := congrArg List.flatten e
    rw [List.flatten_append, List.flatten_cons] at this
    exact this
  have hlen : cntP ps j + i < ps.flatten.length := by
    rw [e2]
    unfold cntP
    simp
    omega
  refine ⟨hlen, ?_⟩
  apply Option.some.inj
  rw [← List.getElem?_eq_getElem hlen, ← List.getElem?_eq_getElem hi, e2]
  unfold cntP
  rw [List.getElem?_append_right (by omega), Nat.add_sub_cancel_left, List.getElem?_append_left hi]

/-- The positions of a stripe, epoch by epoch. -/
def partsL (m : MapD) (k a e : Int) : List (List Int) := (endedL m e).map fun y => dealtL y.1 k a y.2
/-- The positions of a stripe. -/
def posL (m : MapD) (k a e : Int) : List Int := (partsL m k a e).flatten
theorem partsL_length (m : MapD) (k a e : Int) : (partsL m k a e).length = (endedL m e).length := by simp [partsL]

set_option maxRecDepth 100000 in
set_option maxHeartbeats 4000000 in
theorem positions_seq (n : Nat) (hn : n = 8) (b : Nat) (v : Value) (m : MapD) (k a e : Int) (w : World) (hp : IsPos w b v m k a e) (hl : m.length ≤ 1099511627776) (hm : ∀ i (h : i < m.length), 0 ≤ m[i].1 ∧ m[i].1 ≤ 9223372036854775807 ∧ 1 ≤ m[i].2 ∧ m[i].2 ≤ 8)
    (hk : -1048576 ≤ k ∧ k ≤ 1048576) (ha : 0 ≤ a ∧ a ≤ 1048576) (he : 0 ≤ e ∧ e ≤ 1048576) :
    SeqT n Tryd.prog 32 #[.pointer (some ⟨b + 3, 0, none⟩), .pointer (some ⟨b + 2, 0, none⟩), .pointer (some ⟨b, 0, none⟩), .pointer (some ⟨b + 1, 0, none⟩)] encInt (onPos b v) (posL m k a e) w := by
  subst hn
  intro lp J Jx W hW hJo hJxo hJT hY h0
  have hbw := hp.lt (c := b) (.inl ⟨by omega, by omega⟩)
  have hp := hp.below hW
  have hsW := hW.size
  obtain ⟨va, cap, rfl⟩ := ownsRow_slice hp.row
  have hY2 : ∀ j i T A (hj : j < (partsL m k a e).length) (hi : i < (partsL m k a e)[j].length), J (cntP (partsL m k a e) j + i) T A → ∀ n', YieldAt Fence.wide n' Tryd.prog lp (encInt (partsL m k a e)[j][i]) A fun en C => (en = .returned (.bool true) ∧ (∃ T', J (cntP (partsL m k a e) j + i + 1) T' C ∧ KT W.heap.size T A T' C) ∧ KeepsB (onPos b (.slice va m.length cap)) A C) ∨ (en = .returned (.bool false) ∧ Jx (cntP (partsL m k a e) j + i) C ∧ KeepsFrom W.heap.size A C) := by
    intro j i T A hj hi hJ n'
    obtain ⟨h1, h2⟩ := flat_get _ j i hj hi
    have := hY _ h1 T A hJ
    rw [show (posL m k a e)[cntP (partsL m k a e) j + i]'h1 = (partsL m k a e)[j][i] from h2] at this
    exact yield_any n' this
  have HY := hide hY2
  have Hp := hide hp
  have HJ := hide hJo
  have HJx := hide hJxo
  have HJT := hide hJT
  have Hm := hide hm
  have c0 := hp.bk.cell
  have c1 := hp.ba.cell
  have c2 := (hp.be.alloc (.cells #[.func (.yield lp) #[] #[]] 72)).cell
  have c3 := (hp.bm.alloc (.cells #[.func (.yield lp) #[] #[]] 72)).cell
  clear hY hY2 hp hJo hJxo hJT hm hW
  refine callsIn_of_wp_marks Tryd.func32 rfl trivial ?_ rfl
  simp only [Tryd.ntmps32, List.size_toArray, List.length_cons, List.length_nil, Nat.reduceAdd, Nat.reduceSub, Array.replicate_succ, Array.replicate_zero, List.push_toArray, List.append_toArray, List.nil_append, List.cons_append]
  gi_wp2_with (refine ⟨trivial, ?_⟩; gi_at_call 33; refine ((callsIn_wide (n := _)).2 (ended_calls _ _ _ _ _)).mono ?_; rintro en w' ⟨rfl, rfl⟩)
  (try simp only [Nat.add_assoc, Nat.reduceAdd])
  obtain ⟨W3, hW3⟩ : ∃ W3, (((W.alloc (.cells #[.func (.yield lp) #[] #[]] 72)).alloc (.cells #[.slice va m.length cap] 23)).alloc (.cells #[.int .i64 e] 3)) = W3 := ⟨_, rfl⟩
  have s3 : W3.heap.size = W.heap.size + 3 := by rw [← hW3]; simp
  have y0 : Boxed W3 W.heap.size 72 (.func (.yield lp) #[] #[]) := by rw [← hW3]; exact ((boxed_new' (by simp)).alloc _).alloc _
  have y1 : Boxed W3 (W.heap.size + 1) 23 (.slice va m.length cap) := by rw [← hW3]; exact (boxed_new' (by simp)).alloc _
  have y2 : Boxed W3 (W.heap.size + 2) 3 (.int .i64 e) := by rw [← hW3]; exact (boxed_new' (by simp))
  have hB3 : Below W.heap.size W W3 := by
    rw [← hW3]
    exact (((Below.refl _ W).alloc (Nat.le_refl _) _).alloc (by simp) _).alloc (by simp; omega) _
  have hp3 := Hp.out.below hB3
  have hj3 : ∃ T, J 0 T W3 ∧ ∀ c, T c → c < W.heap.size := by
    obtain ⟨T, hT⟩ := h0
    refine ⟨T, ?_, HJT.out 0 T W hT⟩
    rw [← hW3]
    exact (HJ.out T).alloc _ ((HJ.out T).alloc _ ((HJ.out T).alloc _ hT))
  rw [hW3]
  clear hW3 c2 c3 c0 c1 h0
  have hpW : ∀ c, onPos b (.slice va m.length cap) c → c < W.heap.size := fun c hc => Hp.out.lt hc
  obtain ⟨s, hs⟩ : ∃ s, W.heap.size = s := ⟨_, rfl⟩
  rw [hs] at HY HJ HJx s3 y0 y1 y2 hj3 hpW hsW ⊢
  have hE3 : IsEnded W3 (s + 1) (.slice va m.length cap) m e := ⟨y1, by rw [Nat.add_assoc]; exact y2, hp3.row⟩
  clear hB3 hs y1 y2 Hp
  refine range_lawO (α := (Int × Int) × Int) (by decide) (gf := 39) (lb := #[.pointer (some ⟨s + 1, 0, none⟩), .pointer (some ⟨s + 2, 0, none⟩)]) rfl (enters_of Tryd.func39 (by kernel_rfl) rfl)
    (ended_seq 7 (by decide) (s + 1) (.slice va m.length cap) m e W3 hE3 hl) keepsB_t (keepsB_b fun c hc => hE3.lt hc) (fun _ => rfl)
    (fun j X => (∃ T, J (cntP (partsL m k a e) j) T X ∧ ∀ c, s ≤ c → c < s + 3 → ¬ T c) ∧ (∀ c, s ≤ c → c < s + 3 → X.heap[c]? = W3.heap[c]?) ∧ KeepsB (onPos b (.slice va m.length cap)) W3 X ∧ s + 3 ≤ X.heap.size)
    (fun c _ X => c = .ret ∧ ∃ i, i < (posL m k a e).length ∧ Jx i X)
    ?hI ?hIx ?h0
    (fun x a' X => ∃ Bx, s + 3 ≤ Bx ∧ X.heap[Bx]? = some (.cells #[.int .i64 x.1.1, .int .i64 x.1.2] 48 (0, 0)) ∧ a' = { tmps := #[.func (.yield lp) #[] #[], .pointer (some ⟨b + 3, 0, none⟩), .pointer (some ⟨b + 2, 0, none⟩), .pointer (some ⟨b, 0, none⟩), .pointer (some ⟨b + 1, 0, none⟩), .pointer (some ⟨s, 0, none⟩), .pointer (some ⟨Bx, 0, none⟩), .int .i64 x.2, undef, .slice va m.length cap, .int .i64 e, .func (.func 39) #[] #[.pointer (some ⟨s + 1, 0, none⟩), .pointer (some ⟨s + 2, 0, none⟩)], .agg #[.int .i64 x.1.1, .int .i64 x.1.2], .int .i64 x.2, undef, undef, undef, undef, undef, undef, undef, undef, undef, undef], defers := [] })
    ?hAx ?assign ?body ?done ?stop
  case hI =>
    rintro j X Y row ⟨⟨T, h1, h2⟩, h3, h4, h5⟩ hg hr
    refine ⟨⟨T, OwnFrom.up (HJ.out T) (show s ≤ W3.heap.size by omega) _ X Y row h1 hg hr, h2⟩, fun c hc1 hc2 => (hg.block c (by omega) fun e => by have := (hr _ e.symm).1; omega).trans (h3 c hc1 hc2), fun c hc => (hg.block c (by have := hpW c hc; omega) fun e => by have := (hr _ e.symm).1; have := hpW c hc; omega).trans (h4 c hc), Nat.le_trans h5 hg.size⟩
  case hIx =>
    rintro c j X Y row ⟨h1, i, h2, h3⟩ hg hr
    exact ⟨h1, i, h2, OwnFrom.up HJx.out (show s ≤ W3.heap.size by omega) _ X Y row h3 hg hr⟩
  case h0 =>
    obtain ⟨T, h1, h2⟩ := hj3
    exact ⟨⟨T, h1, fun c hc1 _ hc => by have := h2 c hc; omega⟩, fun _ _ _ => rfl, fun _ _ => rfl, by omega⟩
  case hAx =>
    rintro x a' _ X Y row ⟨Bx, h1, h2, h3⟩ hg hr
    exact ⟨Bx, h1, (own_keeps hg (fun r e => (hr r e).2) h2).trans h2, h3⟩
  case assign =>
    rintro l j hj X K ⟨⟨T, h1, h2⟩, h3, h4, h5⟩ hK
    rw [endedL_get] at hK ⊢
    generalize m.getD j (0, 0) = xk at *
    generalize endM m e j = ek at *
    obtain ⟨p, q⟩ := xk
    dsimp only [encSpan] at *
    gi_wp2
    refine hK _ _ ((KeepsOthers.alloc _ _).from _) (fun c hc => Below.heap_alloc _ _ _ ?_) ⟨⟨T, (HJ.out T).alloc _ h1, h2⟩, fun c hc1 hc2 => (Below.heap_alloc _ _ _ (by omega)).trans (h3 c hc1 hc2), fun c hc => (Below.heap_alloc _ _ _ (by have := hpW c hc; omega)).trans (h4 c hc), by simp; omega⟩ ⟨X.heap.size, by omega, World.alloc_heap_new X _, rfl⟩
    have := hE3.lt hc
    omega
  case body =>
    rintro l j hj a' X hl1 ⟨r1, hr1⟩ ⟨⟨T, hJ, hT⟩, h3, h4, h5⟩ ⟨Bx, hBx, hbx, rfl⟩
    have hjm : j < m.length := by rw [endedL_length] at hj; exact hj
    have hjp : j < (partsL m k a e).length := by rw [partsL_length]; exact hj
    have hpj : (partsL m k a e)[j] = dealtL (m.getD j (0, 0)) k a (endM m e j) := by simp [partsL, endedL_get]
    have hcs := hide (cntP_succ (partsL m k a e) j hjp)
    have hxw : 0 ≤ (m.getD j (0, 0)).1 ∧ (m.getD j (0, 0)).1 ≤ 9223372036854775807 ∧ 1 ≤ (m.getD j (0, 0)).2 ∧ (m.getD j (0, 0)).2 ≤ 8 := by
      rw [List.getD_eq_getElem?_getD, List.getElem?_eq_getElem hjm]
      exact Hm.out j hjm
    have hew : 0 ≤ endM m e j ∧ endM m e j ≤ 1048576 := by
      unfold endM
      split
      · rename_i hjn
        rw [List.getD_eq_getElem?_getD, List.getElem?_eq_getElem hjn, Option.getD_some]
        have := Hm.out (j + 1) hjn
        omega
      · exact he
    have hfl := hide (fun i hi => flat_get (partsL m k a e) j i hjp hi)
    rw [endedL_get] at hbx ⊢
    have HYj := hide (fun i T A hi hJ n' => HY.out j i T A hjp hi hJ n')
    rw [hpj] at hcs hfl HYj
    obtain ⟨cj, hcj⟩ : ∃ cj, cntP (partsL m k a e) j = cj := ⟨_, rfl⟩
    rw [hcj] at hcs hfl HYj hJ
    generalize m.getD j (0, 0) = xk at *
    generalize endM m e j = ek at *
    obtain ⟨p, q⟩ := xk
    dsimp only [encSpan] at *
    have hp4 := hp3.keep h4
    have c0 := hp4.bk.cell
    have c1 := hp4.ba.cell
    have cb0 := cellsAt hbx 0
    have cb1 := cellsAt hbx 1
    simp only [List.getElem?_toArray, List.getElem?_cons_zero, List.getElem?_cons_succ] at cb0 cb1
    have hTX := HJT.out _ T X hJ
    have Hpj := hide hpj
    clear hpj HY hcj
    gi_wp2_with (refine ⟨trivial, ?_⟩; gi_at_call 34; refine (CallsIn.inRound l ((callsIn_wide (n := _)).2 (dealt_calls (p, q) k a ek X))).mono ?_; rintro en w' ⟨rfl, rfl⟩)
    obtain ⟨X4, hX4⟩ : ∃ X4, ((((X.alloc (.cells #[.int .i64 p, .int .i64 q] 48)).alloc (.cells #[.int .i64 k] 3)).alloc (.cells #[.int .i64 a] 3)).alloc (.cells #[.int .i64 ek] 3)) = X4 := ⟨_, rfl⟩
    have s4 : X4.heap.size = X.heap.size + 4 := by rw [← hX4]; simp
    have d4 : IsDealt X4 X.heap.size (p, q) k a ek := by
      rw [← hX4]
      exact ⟨(Below.heap_alloc _ _ _ (by simp; omega)).trans ((Below.heap_alloc _ _ _ (by simp; omega)).trans ((Below.heap_alloc _ _ _ (by simp)).trans (World.alloc_heap_new X _))), ((boxed_new' (by simp)).alloc _).alloc _, (boxed_new' (by simp)).alloc _, boxed_new' (by simp)⟩
    have hB4 : Below X.heap.size X X4 := by
      rw [← hX4]
      exact ((((Below.refl _ X).alloc (Nat.le_refl _) _).alloc (by simp) _).alloc (by simp; omega) _).alloc (by simp; omega) _
    have hJ4 : J cj T X4 := by rw [← hX4]; exact (HJ.out T).alloc _ ((HJ.out T).alloc _ ((HJ.out T).alloc _ ((HJ.out T).alloc _ hJ)))
    have hr4 : X4.heap[l]? = some (.loop r1) := (hB4.block l (ltAt hr1)).trans hr1
    have g4 : KeepsB (onPos b (.slice va m.length cap)) W3 X4 := fun c hc => (hB4.block c (by have := hpW c hc; omega)).trans (h4 c hc)
    have o4 : ∀ c, s ≤ c → c < s + 3 → X4.heap[c]? = W3.heap[c]? := fun c hc1 hc2 => (hB4.block c (by omega)).trans (h3 c hc1 hc2)
    (try simp only [Nat.add_assoc, Nat.reduceAdd])
    rw [hX4]
    clear hX4 c0 c1 cb0 cb1 hbx h3 h4 hp4 hJ
    refine range_lawN (α := Int) (l₀ := l) (r₀ := r1) hr4 (by decide) (gf := 40) (lb := #[.pointer (some ⟨X.heap.size + 2, 0, none⟩), .pointer (some ⟨X.heap.size, 0, none⟩), .pointer (some ⟨X.heap.size + 1, 0, none⟩), .pointer (some ⟨X.heap.size + 3, 0, none⟩)]) rfl (enters_of Tryd.func40 (by kernel_rfl) rfl)
      (dealt_seq 5 (by decide) X.heap.size (p, q) k a ek X4 d4 hxw hk ha hew) keepsB_t (keepsB_b fun c hc => by omega) (fun _ => rfl)
      (fun i Z => ∃ T', J (cj + i) T' Z ∧ KT s T X4 T' Z ∧ KeepsB (onPos b (.slice va m.length cap)) X4 Z)
      (fun c i Z => c = .ret ∧ Jx (cj + i) Z ∧ KeepsFrom s X4 Z)
      ?hI2 ?hIx2 ⟨T, hJ4, KT.refl _ _ _, fun _ _ => rfl⟩
      (fun y => { tmps := #[.func (.yield lp) #[] #[], .pointer (some ⟨b + 3, 0, none⟩), .pointer (some ⟨b + 2, 0, none⟩), .pointer (some ⟨b, 0, none⟩), .pointer (some ⟨b + 1, 0, none⟩), .pointer (some ⟨s, 0, none⟩), .pointer (some ⟨Bx, 0, none⟩), .int .i64 ek, .int .i64 y, .slice va m.length cap, .int .i64 e, .func (.func 39) #[] #[.pointer (some ⟨s + 1, 0, none⟩), .pointer (some ⟨s + 2, 0, none⟩)], .agg #[.int .i64 p, .int .i64 q], .int .i64 ek, .agg #[.int .i64 p, .int .i64 q], .int .i64 k, .int .i64 a, .int .i64 ek, .func (.func 40) #[] #[.pointer (some ⟨X.heap.size + 2, 0, none⟩), .pointer (some ⟨X.heap.size, 0, none⟩), .pointer (some ⟨X.heap.size + 1, 0, none⟩), .pointer (some ⟨X.heap.size + 3, 0, none⟩)], .int .i64 y, undef, undef, undef, undef], defers := [] })
      ?assign2 ?body2 ?done2 ?stop2
    case hI2 =>
      rintro i Z Z' row ⟨T', g1, g2, g3⟩ hg hr
      exact ⟨T', OwnFrom.up (HJ.out T') (show s ≤ X4.heap.size by omega) _ Z Z' row g1 hg hr, KT.own (β := Unit) (Nat.le_refl _) (T', ()) Z Z' row g2 hg hr, fun c hc => (hg.block c (by have := hpW c hc; have := g2.keep.size; omega) fun e => by have := (hr _ e.symm).1; have := hpW c hc; omega).trans (g3 c hc)⟩
    case hIx2 =>
      rintro c i Z Z' row ⟨g1, g2, g3⟩ hg hr
      exact ⟨g1, OwnFrom.up HJx.out (show s ≤ X4.heap.size by omega) _ Z Z' row g2 hg hr, ownFrom_keepsFrom (β := Unit) (Nat.le_refl _) () Z Z' row g3 hg hr⟩
    case assign2 =>
      intro l2 y Z K hK
      dsimp only [encInt]
      gi_wp2
      exact hK
    case body2 =>
      rintro l2 i hi Z ⟨T', g1, g2, g3⟩
      have hsz := g2.keep.size
      have hTs : ∀ c, s ≤ c → (c < s + 3 ∨ X.heap.size ≤ c) → c < X4.heap.size → ¬ T' c := fun c hc1 hc2 hc3 hc => by
        have hc := g2.old c hc3 hc
        rcases hc2 with h | h
        · exact hT c hc1 h hc
        · have := hTX c hc
          omega
      have yb : Boxed Z s 72 (.func (.yield lp) #[] #[]) := boxed_of_heap y0 ((g2.same s (Nat.le_refl _) (by omega) (fun hc => hT s (Nat.le_refl _) (by omega) hc)).trans (o4 s (Nat.le_refl _) (by omega)))
      have cy := yb.cell
      obtain ⟨fn, tmps, assign, body, hy, hR⟩ := HYj.out i T' Z hi g1 (8 - 1 - 1 - 1 - 1 - 1)
      generalize (dealtL (p, q) k a ek)[i] = y at *
      dsimp only [encInt] at hy
      clear yb
      gi_wp2
      refine RoundIn.mono (show RoundIn (Fence.wide.inRound l2) _ _ _ _ _ _ _ _ _ from hR) ?_
      rintro en Z3 (⟨rfl, ⟨T3, hJ3, hk3⟩, hg3⟩ | ⟨rfl, hJx3, hk3⟩)
      · gi_wp2
        exact ⟨(hk3.mono (show s ≤ X4.heap.size by omega)).keep, fun c hc => hk3.same c (by omega) (by omega) (hTs c (by omega) (.inr hc.1) (by omega)), T3, by rw [← Nat.add_assoc]; exact hJ3, g2.trans hk3, keepsB_t g3 hg3⟩
      · gi_wp2
        exact ⟨⟨hk3.size, fun c o hc => hk3.same c o (by omega)⟩, rfl, hJx3, g2.keep.trans hk3⟩
    case done2 =>
      rintro Z ⟨T', g1, g2, g3⟩
      gi_wp2
      have hsz := g2.keep.size
      have kf : KeepsFrom W3.heap.size X Z := ((keeps_of_below hB4).from _).trans ⟨hsz, fun c o hc => g2.keep.same c o (by omega)⟩
      refine ⟨kf, ?_, ⟨T', ?_, ?_⟩, ?_, keepsB_t g4 g3, by omega⟩
      · intro c hc
        rcases hc with rfl | rfl | hc
        · exact (g2.same (s + 1) (by omega) (by omega) (hT _ (by omega) (by omega))).trans (hB4.block _ (by omega))
        · exact (g2.same (s + 1 + 1) (by omega) (by omega) (hT _ (by omega) (by omega))).trans (hB4.block _ (by omega))
        · exact (g3 c (.inr hc)).trans (hB4.block c (by have := hpW c (.inr hc); omega))
      · rw [hcs.out]
        exact g1
      · intro c hc1 hc2 hc
        exact hT c hc1 hc2 (g2.old c (by omega) hc)
      · intro c hc1 hc2
        exact (g2.same c hc1 (by omega) (hT c hc1 hc2)).trans (o4 c hc1 hc2)
    case stop2 =>
      rintro c i Z hi ⟨rfl, g2, g3⟩
      gi_wp2
      have hsz := g3.size
      obtain ⟨hfi, -⟩ := hfl.out i hi
      exact ⟨((keeps_of_below hB4).from _).trans ⟨hsz, fun c o hc => g3.same c o (by omega)⟩, rfl, cj + i, hfi, g2⟩
  case done =>
    rintro D X hD ⟨⟨T, hJ, hT⟩, h3, h4, h5⟩ hK
    gi_wp2
    refine ⟨by simp, .inl ⟨_, _, rfl, run_takeDeferred hK, ?_⟩⟩
    refine ⟨_, results_none rfl _ _ _, ⟨_, rfl⟩, .inl ⟨T, ?_⟩⟩
    rw [← partsL_length (k := k) (a := a), cntP_all] at hJ
    exact (HJ.out T).putObj _ hJ (by omega) hK rfl
  case stop =>
    rintro D c j X hD hj ⟨rfl, i, hi, hx⟩ hK
    gi_wp2
    refine ⟨by simp, .inl ⟨_, _, rfl, run_takeDeferred hK, ?_⟩⟩
    exact ⟨_, results_none rfl _ _ _, ⟨_, rfl⟩, .inr ⟨i, hi, HJx.out.putObj _ hx (by omega) hK rfl⟩⟩

end Go.Proofs.YtndhkbmgpjjepaaDoor

/- The laws' Nums over Positions. Own work; no statement. -/
set_option linter.unusedSimpArgs false
set_option linter.unusedVariables false
namespace Go.Proofs.YtndhkbmgpjjepaaDoor
open Go.RowKit Go.Shelf

attribute [local go_sem] Oper.semAt_some

/-- Positions' answer. -/
def posV (b : Nat) : Value := .func (.func 32) #[] #[.pointer (some ⟨b + 3, 0, none⟩), .pointer (some ⟨b + 2, 0, none⟩), .pointer (some ⟨b, 0, none⟩), .pointer (some ⟨b + 1, 0, none⟩)]

set_option maxRecDepth 100000 in
set_option maxHeartbeats 4000000 in
theorem nums_calls (b : Nat) (vr : Value) (m : MapD) (k a e : Int) (most : Nat) (w : World) (hp : IsPos w b vr m k a e) (hl : m.length ≤ 1099511627776) (hm : ∀ i (h : i < m.length), 0 ≤ m[i].1 ∧ m[i].1 ≤ 9223372036854775807 ∧ 1 ≤ m[i].2 ∧ m[i].2 ≤ 8)
    (hk : -1048576 ≤ k ∧ k ≤ 1048576) (ha : 0 ≤ a ∧ a ≤ 1048576) (he : 0 ≤ e ∧ e ≤ 1048576) (hlen : (posL m k a e).length ≤ most) (hmo : most ≤ 1048576) :
    Calls Tryd.prog 21 #[posV b, .int .i64 (most : Int)] w fun en w' => ∃ v, en = .returned (.tuple #[v, .bool true]) ∧ w'.ownsRow w.heap.size 3 1 v (posL m k a e).length ((posL m k a e).map (Value.int .i64)) ∧ Below w.heap.size w w' := by
  have heq : ∀ (fn : Fn) (first cap : Array Value) (w : World), (binOp .eql 53 (.func fn first cap) .nilFunc).run Tryd.prog w = .ok (.bool false) w := fun _ _ _ _ => by kernel_rfl
  obtain ⟨i0, hi, hz0, hz1, hz2⟩ := info_parts Tryd.info3
  have HQ := hide (fun W4 hp4 => positions_seq 8 rfl b vr m k a e W4 hp4 hl hm hk ha he)
  obtain ⟨xs, hxs⟩ : ∃ xs, posL m k a e = xs := ⟨_, rfl⟩
  rw [hxs] at hlen HQ ⊢
  clear hxs hm
  refine (callsIn_wide (n := 9)).1 ?_
  unfold posV
  refine callsIn_of_wp_marks Tryd.func21 rfl trivial ?_ rfl
  simp only [Tryd.ntmps21, List.size_toArray, List.length_cons, List.length_nil, Nat.reduceAdd, Nat.reduceSub, Array.replicate_succ, Array.replicate_zero, List.push_toArray, List.append_toArray, List.nil_append, List.cons_append]
  gi_wp2
  (try simp only [Nat.add_assoc, Nat.reduceAdd])
  obtain ⟨W4, hW4⟩ : ∃ W4, ((((w.alloc (.cells #[.int .i64 (most : Int)] 3)).alloc (.cells #[.slice none 0 0] 49)).alloc (.cells #[.bool false] 4)).alloc (.cells #[.slice none 0 0] 49)) = W4 := ⟨_, rfl⟩
  have s4 : W4.heap.size = w.heap.size + 4 := by rw [← hW4]; simp
  have b0 : Boxed W4 w.heap.size 3 (.int .i64 (most : Int)) := by rw [← hW4]; exact ((((boxed_new' (by simp)).alloc _).alloc _).alloc _)
  have b1 : Boxed W4 (w.heap.size + 1) 49 (.slice none 0 0) := by rw [← hW4]; exact (((boxed_new' (by simp)).alloc _).alloc _)
  have b2 : Boxed W4 (w.heap.size + 2) 4 (.bool false) := by rw [← hW4]; exact ((boxed_new' (by simp)).alloc _)
  have b3 : Boxed W4 (w.heap.size + 3) 49 (.slice none 0 0) := by rw [← hW4]; exact (boxed_new' (by simp))
  have hB4 : Below w.heap.size w W4 := by
    rw [← hW4]
    exact ((((Below.refl _ w).alloc (Nat.le_refl _) _).alloc (by simp) _).alloc (by simp; omega) _).alloc (by simp; omega) _
  rw [hW4]
  clear hW4
  have hp4 := hp.below hB4
  have hpw : ∀ c, onPos b vr c → c < w.heap.size := fun c hc => hp.lt hc
  have Q0 := hide (HQ.out W4 hp4)
  clear hp hp4 HQ
  refine range_lawT (α := Int) (by decide) (gf := 32) (lb := #[.pointer (some ⟨b + 3, 0, none⟩), .pointer (some ⟨b + 2, 0, none⟩), .pointer (some ⟨b, 0, none⟩), .pointer (some ⟨b + 1, 0, none⟩)]) rfl (enters_of Tryd.func32 (by kernel_rfl) rfl)
    Q0.out (fun c hc => by have := hpw c hc; omega) (fun _ => rfl)
    (fun i T X => ((∃ v, Boxed X (w.heap.size + 3) 49 v ∧ X.ownsRow (w.heap.size + 4) 3 1 v i ((xs.map (Value.int .i64)).take i) ∧ ∀ c, T c ↔ v.ownBlock = some c) ∧ Boxed X w.heap.size 3 (.int .i64 (most : Int)) ∧ Boxed X (w.heap.size + 1) 49 (.slice none 0 0) ∧ Boxed X (w.heap.size + 2) 4 (.bool false) ∧ w.heap.size + 4 ≤ X.heap.size) ∧ Below w.heap.size w X)
    (fun _ _ _ => False)
    ?hI ?hIT (fun _ _ _ _ _ h _ _ => h) ?h0
    (fun x => { tmps := #[.func (.func 32) #[] #[.pointer (some ⟨b + 3, 0, none⟩), .pointer (some ⟨b + 2, 0, none⟩), .pointer (some ⟨b, 0, none⟩), .pointer (some ⟨b + 1, 0, none⟩)], .int .i64 (most : Int), undef, .pointer (some ⟨w.heap.size, 0, none⟩), .pointer (some ⟨w.heap.size + 1, 0, none⟩), .pointer (some ⟨w.heap.size + 2, 0, none⟩), .pointer (some ⟨w.heap.size + 3, 0, none⟩), .int .i64 x, .func (.func 32) #[] #[.pointer (some ⟨b + 3, 0, none⟩), .pointer (some ⟨b + 2, 0, none⟩), .pointer (some ⟨b, 0, none⟩), .pointer (some ⟨b + 1, 0, none⟩)], .bool false, .func (.func 32) #[] #[.pointer (some ⟨b + 3, 0, none⟩), .pointer (some ⟨b + 2, 0, none⟩), .pointer (some ⟨b, 0, none⟩), .pointer (some ⟨b + 1, 0, none⟩)], .int .i64 x, undef, undef, undef, undef, undef, undef, undef, undef, undef, undef], defers := [] }) ?assign ?body ?done ?stop
  case hI =>
    intro T
    refine OwnFrom.and (Own.from (fun i X Y row hh hg hr => ?_) _) (ownFrom_below (Nat.le_refl _) (by omega))
    obtain ⟨⟨v, h1, h2, h3⟩, h4, h5, h6, hsz⟩ := hh
    exact ⟨⟨v, boxed_own' hg hr h1, ownsRow_own' hg hr h2, h3⟩, boxed_own' hg hr h4, boxed_own' hg hr h5, boxed_own' hg hr h6, Nat.le_trans hsz hg.size⟩
  case hIT =>
    rintro i T X ⟨⟨⟨v, h1, h2, h3⟩, _⟩, _⟩ c hc
    exact (h2.lt c ((h3 c).1 hc)).2
  case h0 => exact ⟨fun _ => False, ⟨⟨_, b3, World.ownsRow_nil _ _ _ _, fun c => ⟨fun h => h.elim, fun h => by cases h⟩⟩, b0, b1, b2, by omega⟩, hB4⟩
  case assign =>
    intro l x X K hK
    dsimp only [encInt]
    gi_wp2
    exact hK
  case body =>
    rintro lp i hii T X ⟨⟨⟨v, h1, h2, h3⟩, h4, h5, h6, hsz⟩, hB⟩
    clear b0 b1 b2 b3 hB4 Q0
    obtain ⟨pa, ca, rfl⟩ := ownsRow_slice h2
    have hsn : (xs.map (Value.int .i64)).take (i + 1) = (xs.map (Value.int .i64)).take i ++ [.int .i64 xs[i]] := by
      rw [List.take_add_one, List.getElem?_map, List.getElem?_eq_getElem hii]
      rfl
    have Hsn := hide hsn
    clear hsn
    generalize xs[i] = x at *
    have c3 := h1.cell
    have f3 := h1.frozen
    have c0 := h4.cell
    have hlt : ¬ (most : Int) ≤ (i : Int) := by omega
    have hbs := hB.size
    have HT := hide h3
    clear h3
    gi_wp2_with (gi_at_builtin; refine wpListIn_append_own_at _ rfl (.tmp 17) _ 49 rfl (w.heap.size + 4) 3 i0 (.int .i64 0) 1 8 Tryd.underlying49 hi hz0 hz1 hz2 rfl (by decide) _ _ _ rfl (World.ownsRow.alloc h2 _) ⟨_, 0, none⟩ 1 1 [.int .i64 x] rfl rfl (cell_one_at (by simp)) (by intro u hu; simp at hu; subst hu; rfl) (by unfold maxLen; omega) (by omega) (by simp; omega) ?_; intro v1 w1 hown1 hgrow1 _ hat1; obtain ⟨g1, cap1, rfl⟩ := ownsRow_succ hown1; obtain ⟨bx1, t1, r1, k1, hb1, ho1⟩ := app_lowS (N := w.heap.size) h1 h2 (by omega) (by omega) (by omega) hown1 hgrow1; have d1 := bx1.cell; have g1f := bx1.frozen; replace hgrow1 := hide hgrow1; replace hat1 := hide hat1; clear hown1)
    have q : ∀ c, c < w.heap.size + 4 → c ≠ w.heap.size + 3 → _ = X.heap[c]? := fun c hc h2 => ho1.out c hc h2
    refine ⟨⟨fun c => g1 = c, ⟨⟨⟨_, t1, ?_, fun c => ⟨fun h => by rw [h]; rfl, fun h => by simpa [Value.ownBlock] using h⟩⟩, boxed_of_heap h4 (q _ (by omega) (by omega)), boxed_of_heap h5 (q _ (by omega) (by omega)), boxed_of_heap h6 (q _ (by omega) (by omega)), ?_⟩, hB.trans hb1⟩, ⟨k1.from _, fun c hc1 hc2 hc3 => app_other hgrow1.out c hc2 (fun e => hc3 ((HT.out c).2 e.symm)) (by omega), ?_⟩⟩, fun c hc => q c (by have := hpw c hc; omega) (by have := hpw c hc; omega)⟩
    · rw [Hsn.out]
      exact r1
    · have := hb1.size
      simp at this ⊢
      omega
    · rintro c hc rfl
      rcases hat1.out with h | h
      · exact (HT.out _).2 (h.symm.trans rfl)
      · simp [Value.ownBlock] at h
        omega
  case done =>
    rintro D T X hD ⟨⟨⟨v, h1, h2, -⟩, h4, h5, h6, hsz⟩, hB⟩ hK
    clear b0 b1 b2 b3 hB4 Q0
    rw [List.take_of_length_le (by simp)] at h2
    obtain ⟨pa, ca, rfl⟩ := ownsRow_slice h2
    have c3 := h1.cell
    have c1 := h5.cell
    have c2 := h6.cell
    have f1 := h5.frozen
    have f2 := h6.frozen
    gi_wp2
    obtain ⟨W3, hW3⟩ : ∃ W3, (X.setCell ⟨w.heap.size + 1, 0, none⟩ (.slice pa xs.length ca)).setCell ⟨w.heap.size + 2, 0, none⟩ (.bool true) = W3 := ⟨_, rfl⟩
    have hK3 : W3.heap[D]? = some (.deferred (some [])) := by
      rw [← hW3]
      exact (KeepsOthers.setCell _ _ _).same D _ ((KeepsOthers.setCell _ _ _).same D _ hK rfl) rfl
    have R0 : Boxed W3 (w.heap.size + 1) 49 (.slice pa xs.length ca) := by rw [← hW3]; exact boxed_of_heap (h5.set _) (one_set _ (by omega))
    have R1 : Boxed W3 (w.heap.size + 2) 4 (.bool true) := by rw [← hW3]; exact (boxed_of_heap h6 (one_set _ (by omega))).set _
    have hB3 : Below w.heap.size w W3 := by rw [← hW3]; exact (hB.setCell (p := ⟨w.heap.size + 1, 0, none⟩) (by simp) _).setCell (p := ⟨w.heap.size + 2, 0, none⟩) (by simp) _
    have hk3 : ∀ c, w.heap.size + 4 ≤ c → W3.heap[c]? = X.heap[c]? := by intro c hc; rw [← hW3]; exact two_sets c (by omega) (by omega)
    rw [hW3]
    have hg := grownBy_putObj' W3 D (.deferred none)
    have hr : ∀ r, some D = some r → ∃ o : Obj, W3.heap[r]? = some o ∧ o.isCells = false := fun r e => by cases e; exact ⟨_, hK3, rfl⟩
    have Q0 := (boxed_own' hg hr R0).cell
    have Q1 := (boxed_own' hg hr R1).cell
    refine ⟨by simp, .inl ⟨_, _, rfl, run_takeDeferred hK3, ?_⟩⟩
    refine ⟨.tuple #[.slice pa xs.length ca, .bool true], by simp [results, Tryd.f21, go_sem, Q0, Q1], .slice pa xs.length ca, rfl, ?_, hB3.trans (belowK_b (w := w) (Nat.le_refl _) W3 D _ _ (by omega) hK3 rfl rfl)⟩
    exact ownsRow_low (ownsRow_own' hg hr (ownsRow_of_heap h2 (fun k hk => hk3 k (h2.lt k hk).1))) (by omega)
  case stop =>
    rintro D c i X hD hii h hK
    exact h.elim

end Go.Proofs.YtndhkbmgpjjepaaDoor

/- The laws' Pairs: what a range over pairs of numbers tells. Own work; no statement. -/
set_option linter.unusedSimpArgs false
set_option linter.unusedVariables false
namespace Go.Proofs.YtndhkbmgpjjepaaDoor
open Go.RowKit Go.Shelf

attribute [local go_sem] Oper.semAt_some
end Go.Proofs.YtndhkbmgpjjepaaDoor

/- The laws' known(): two vectors, joined, met, in words: it answers true in whatever world that has the library's table of powers of ten. Own work; no statement. -/
set_option linter.unusedSimpArgs false
set_option linter.unusedVariables false
namespace Go.Proofs.YtndhkbmgpjjepaaDoor
open Go.RowKit Go.Shelf

theorem itoa_digit (n : Int) (h0 : 0 ≤ n) (h1 : n < 10) : Lib.itoa n = [UInt8.ofNat (48 + n.toNat)] := by
  unfold Lib.itoa
  rw [if_neg (by omega), Lib.decDigits, dif_pos (by omega)]

theorem kJoin : bySiteL max [3, 0, 2] [1, 5] = [3, 5, 2] := by decide
theorem kMeet : bySiteL min [3, 0, 2] [1, 5] = [1, 0, 0] := by decide
theorem kText1 : textL [3, 5, 2] = [91, 51, 32, 53, 32, 50, 93] := by
  have : writtenL [3, 5, 2] = 3 := by decide
  simp [textL, this, numsTo, itoa_digit]
theorem kText2 : textL [1, 0, 0] = [91, 49, 93] := by
  have : writtenL [1, 0, 0] = 1 := by decide
  simp [textL, this, numsTo, itoa_digit]
theorem kText3 : textL [] = [91, 93] := by decide
theorem kWith : withL [1, 5] 3 7 = [1, 5, 0, 7] := by decide
theorem kText4 : textL [1, 5, 0, 7] = [91, 49, 32, 53, 32, 48, 32, 55, 93] := by
  have : writtenL [1, 5, 0, 7] = 4 := by decide
  simp [textL, this, numsTo, itoa_digit]
theorem kParse1 : parseL [91, 51, 32, 48, 32, 50, 93] = ([3, 0, 2], 0) := by decide +kernel
theorem kParse2 : parseL [91, 51, 32, 48, 93] = ([], 2) := by decide +kernel
theorem kPairs1 : (pairsTo [3, 0, 2] ([3, 0, 2] : List Int).length).map (·.1) = [0, 2] := by decide
theorem kPairs2 : (pairsTo [3, 0, 2] ([3, 0, 2] : List Int).length).map (·.2) = [3, 2] := by decide
theorem kSame : everyB eqB [3, 0, 2] [3, 0, 2] = true := by decide
theorem kCov1 : everyB covB [3, 5, 2] [3, 0, 2] = true := by decide
theorem kCov2 : everyB covB [3, 0, 2] [1, 5] = false := by decide
theorem kGet : geti [3, 0, 2] 9 = 0 := by decide
theorem kSum : ([3, 0, 2] : List Int).sum = 5 := by decide
theorem kCheck1 : checkL [3, 0, 2] 2 = 4 := by decide
theorem kCheck2 : checkL [3, 0, 2] 3 = 0 := by decide

theorem alloc_below (w : World) (o : Obj) : Below w.heap.size w (w.alloc o) := (Below.refl _ w).alloc (Nat.le_refl _) o
theorem lit_nums (w : World) (x y : Int) : IsNums .i64 (w.alloc (.cells #[.int .i64 x, .int .i64 y] 3)) (.slice (some ⟨w.heap.size, 0, none⟩) 2 2) [x, y] :=
  IsNums.of_row (base := 0) (World.ownsRow_lit (e := 3) (size := 1) w #[.int .i64 x, .int .i64 y] 2 (Nat.zero_le _) (by unfold maxLen; omega) rfl)

theorem small_inR {l : List Int} (h : ∀ x ∈ l, 0 ≤ x ∧ x ≤ 1048577) : InR l := fun x hx => by have := h x hx; omega

end Go.Proofs.YtndhkbmgpjjepaaDoor

/- The laws' known of landaulaw5. Own work; no statement. -/
set_option linter.unusedSimpArgs false
set_option linter.unusedVariables false
namespace Go.Proofs.YtndhkbmgpjjepaaDoor
open Go.RowKit Go.Shelf

theorem k5Add1 : addM [(0, 2)] 5 3 = [(0, 2), (5, 3)] := by decide
theorem k5Chk1 : checkM ([(0, 2)] ++ [(5, 3)]) = 0 := by decide
theorem k5Chk2 : checkM ([(0, 2), (5, 3)] ++ [(4, 1)]) = 1 := by decide
theorem k5Find1 : findM [(0, 2), (5, 3)] 6 = (2, 1, 0) := by decide
theorem k5Find2 : findM [(0, 2), (5, 3)] 4 = (1, 0, 0) := by decide
theorem k5Then : thenM [(0, 2), (5, 3)] = [(0, 2), (5, 3)] := by decide
theorem k5Pos : posL [(0, 2), (5, 3)] 1 0 12 = [1, 3, 6, 9] := by decide
theorem k5Parse : parseM [48, 47, 50, 32, 53, 47, 51] = ([(0, 2), (5, 3)], 0) := by kernel_rfl
theorem k5Text : textM [(0, 2), (5, 3)] = [48, 47, 50, 32, 53, 47, 51] := by kernel_rfl
theorem k5Chk3 : checkM [] = 1 := rfl
theorem k5R : MapR [(0, 2), (5, 3)] := by
  intro x hx
  simp only [List.mem_cons, List.not_mem_nil, or_false] at hx
  rcases hx with rfl | rfl <;> decide

set_option maxRecDepth 100000 in
set_option maxHeartbeats 4000000 in
theorem known5_calls (w : World) (hp : Pow w) : Calls Tryd.prog 8 #[] w fun e w' => e = .returned (.bool true) ∧ Below w.heap.size w w' := by
  obtain ⟨w2, hw2⟩ : ∃ w2, w.alloc (.cells #[.int .i64 0, .int .i64 2] 48) = w2 := ⟨_, rfl⟩
  have hB : Below w.heap.size w w2 := by rw [← hw2]; exact (Below.refl _ w).alloc (Nat.le_refl _) _
  have hb0 : w2.heap[w.heap.size]? = some (.cells #[.int .i64 0, .int .i64 2] 48 (0, 0)) := by rw [← hw2]; exact World.alloc_heap_new w _
  have hm : IsMap w2 (.slice (some ⟨w.heap.size, 0, none⟩) 1 1) [(0, 2)] := ⟨_, 1, rfl, (fun e => by cases e), fun t ht => by
    have e : t = 0 := by simpa using ht
    subst e
    exact ⟨w.heap.size, 0, rfl, by simpa using cellsAt hb0 0, by simpa using cellsAt hb0 1⟩⟩
  have hP : Pow w2 := hp.below hB
  clear hb0
  go_enter Tryd.func8, Tryd.ntmps8
  go_wp2_with fail
  clear hw2
  refine (mapAdd_calls _ [(0, 2)] 5 3 _ hm (by decide)).mono ?_
  rintro e w3 ⟨vm, rfl, hown, hB1⟩
  rw [k5Add1] at hown
  simp only [k5Chk1]
  replace hm := OwnsM.map hown
  replace hP := hP.below hB1
  replace hB := hB.trans (hB1.mono hB.size)
  obtain ⟨am, cm, rfl⟩ := ownsRow_slice hown
  clear hB1 hown
  go_wp2_with fail
  refine (mapFind_calls _ [(0, 2), (5, 3)] 6 _ hm (by decide) (by decide)).mono ?_
  rintro e w4 ⟨rfl, hB1⟩
  simp only [k5Find1]
  replace hm := hm.below hB1
  replace hP := hP.below hB1
  replace hB := hB.trans (hB1.mono hB.size)
  clear hB1
  go_wp2_with fail
  refine (mapFind_calls _ [(0, 2), (5, 3)] 4 _ hm (by decide) (by decide)).mono ?_
  rintro e w5 ⟨rfl, hB1⟩
  simp only [k5Find2]
  replace hm := hm.below hB1
  replace hP := hP.below hB1
  replace hB := hB.trans (hB1.mono hB.size)
  clear hB1
  go_wp2_with fail
  refine (positions_calls _ [(0, 2), (5, 3)] 1 0 12 _ hm (by decide)).mono ?_
  rintro e w6 ⟨rfl, ⟨vr, hpos⟩, hB1⟩
  rw [k5Then] at hpos
  have N1 := hide (nums_calls _ vr [(0, 2), (5, 3)] 1 0 12 20 w6 hpos (by decide) (by decide) (by decide) (by decide) (by decide) (by decide) (by decide))
  rw [k5Pos] at N1
  unfold posV at N1
  replace hm := hm.below hB1
  replace hP := hP.below hB1
  replace hB := hB.trans (hB1.mono hB.size)
  clear hB1
  go_wp2_with fail
  refine N1.out.mono ?_
  rintro e w7 ⟨vl, rfl, hownl, hB1⟩
  have hl := IsNums.of_row hownl
  obtain ⟨al, cl, rfl⟩ := ownsRow_slice hownl
  replace hm := hm.below hB1
  replace hP := hP.below hB1
  replace hB := hB.trans (hB1.mono hB.size)
  clear hB1 hownl N1
  go_wp2_with fail
  refine (mapParse_calls [48, 47, 50, 32, 53, 47, 51] _ (by decide)).mono ?_
  rintro e w8 ⟨vp, rfl, hownp, hB1⟩
  rw [k5Parse] at hownp
  simp only [k5Parse]
  have hpm := OwnsM.map hownp
  obtain ⟨ap, cp, rfl⟩ := ownsRow_slice hownp
  replace hm := hm.below hB1
  replace hl := hl.below hB1
  replace hP := hP.below hB1
  replace hB := hB.trans (hB1.mono hB.size)
  clear hB1 hownp
  go_wp2_with fail
  refine (mapAdd_calls _ [(0, 2), (5, 3)] 4 1 _ hm (by decide)).mono ?_
  rintro e w9 ⟨vq, rfl, -, hB1⟩
  simp only [k5Chk2]
  replace hpm := hpm.below hB1
  replace hl := hl.below hB1
  replace hP := hP.below hB1
  replace hB := hB.trans (hB1.mono hB.size)
  clear hB1 hm
  have hB1 : Below w9.heap.size w9 (w9.alloc (.cells #[.int .i64 1, .int .i64 3, .int .i64 6, .int .i64 9] 3)) := (Below.refl _ w9).alloc (Nat.le_refl _) _
  have hlit : IsNums .i64 (w9.alloc (.cells #[.int .i64 1, .int .i64 3, .int .i64 6, .int .i64 9] 3)) (.slice (some ⟨w9.heap.size, 0, none⟩) 4 4) [1, 3, 6, 9] :=
    IsNums.of_row (World.ownsRow_lit (base := 0) (e := 3) (size := 1) w9 #[.int .i64 1, .int .i64 3, .int .i64 6, .int .i64 9] 4 (Nat.zero_le _) (by unfold maxLen; omega) rfl)
  replace hpm := hpm.below hB1
  replace hl := hl.below hB1
  replace hP := hP.below hB1
  replace hB := hB.trans (hB1.mono hB.size)
  clear hB1
  go_wp2_with fail
  refine (ints_calls _ _ [1, 3, 6, 9] [1, 3, 6, 9] _ hl hlit (by decide) (by decide)).mono ?_
  rintro e w10 ⟨rfl, n, hw10⟩
  have hB1 : Below _ _ w10 := hw10 ▸ below_draws (B := (w9.alloc (.cells #[.int .i64 1, .int .i64 3, .int .i64 6, .int .i64 9] 3)).heap.size) n
  rw [decide_eq_true rfl]
  replace hpm := hpm.below hB1
  replace hP := hP.below hB1
  replace hB := hB.trans (hB1.mono hB.size)
  clear hB1 hl hlit hw10
  go_wp2_with fail
  refine (mapText_calls _ [(0, 2), (5, 3)] _ hpm (by decide) k5R hP).mono ?_
  rintro e w11 ⟨rfl, hB1⟩
  rw [k5Text]
  replace hB := hB.trans (hB1.mono hB.size)
  clear hB1
  go_wp2_with fail
  refine (mapCheck_calls _ [] _ (IsMap.nil _) (by decide)).mono ?_
  rintro e w12 ⟨rfl, hB1⟩
  rw [k5Chk3]
  replace hB := hB.trans (hB1.mono hB.size)
  clear hB1
  go_wp2
  go_ret
  exact ⟨rfl, hB⟩

end Go.Proofs.YtndhkbmgpjjepaaDoor

/- Plain laws on vectors as lists of numbers. Own work; no statement. -/
set_option linter.unusedSimpArgs false
set_option linter.unusedVariables false
namespace Go.Proofs.YtndhkbmgpjjepaaDoor

theorem getD_out (l : List Int) (i : Nat) (h : l.length ≤ i) : l.getD i 0 = 0 := by
  rw [List.getD, List.getElem?_eq_none h]; rfl
theorem getD_in (l : List Int) (i : Nat) (h : i < l.length) : l.getD i 0 = l[i] := by
  rw [List.getD, List.getElem?_eq_getElem h]; rfl
theorem getD_mem (l : List Int) (i : Nat) (h : i < l.length) : l.getD i 0 ∈ l := by rw [getD_in l i h]; exact List.getElem_mem h

theorem every_iff {f : Int → Int → Bool} (h0 : f 0 0 = true) (a b : List Int) : everyB f a b = true ↔ ∀ i, f (a.getD i 0) (b.getD i 0) = true := by
  constructor
  · intro h i
    unfold everyB at h
    rw [List.all_eq_true] at h
    by_cases hi : i < max a.length b.length
    · exact h i (by simpa using hi)
    · rw [getD_out a i (by omega), getD_out b i (by omega)]; exact h0
  · intro h
    exact everyB_yes f a b (fun i _ => h i)
theorem cov_iff (a b : List Int) : everyB covB a b = true ↔ ∀ i, b.getD i 0 ≤ a.getD i 0 := by
  rw [every_iff (by decide)]; simp only [covB, decide_eq_true_eq]
theorem same_iff (a b : List Int) : everyB eqB a b = true ↔ ∀ i, a.getD i 0 = b.getD i 0 := by
  rw [every_iff (by decide)]; simp only [eqB, beq_iff_eq]
theorem site_get {f : Int → Int → Int} (h0 : f 0 0 = 0) (a b : List Int) (i : Nat) : (bySiteL f a b).getD i 0 = f (a.getD i 0) (b.getD i 0) := by
  by_cases hi : i < max a.length b.length
  · rw [getD_in _ i (by rw [bySiteL_length]; exact hi)]; simp [bySiteL]
  · rw [getD_out _ i (by rw [bySiteL_length]; omega), getD_out a i (by omega), getD_out b i (by omega), h0]
theorem join_get (a b : List Int) (i : Nat) : (bySiteL max a b).getD i 0 = max (a.getD i 0) (b.getD i 0) := site_get (by decide) a b i
theorem meet_get (a b : List Int) (i : Nat) : (bySiteL min a b).getD i 0 = min (a.getD i 0) (b.getD i 0) := site_get (by decide) a b i

theorem cov_join_l (x y : List Int) : everyB covB (bySiteL max x y) x = true := by rw [cov_iff]; intro i; rw [join_get]; omega
theorem cov_join_r (x y : List Int) : everyB covB (bySiteL max x y) y = true := by rw [cov_iff]; intro i; rw [join_get]; omega
theorem cov_meet_l (x y : List Int) : everyB covB x (bySiteL min x y) = true := by rw [cov_iff]; intro i; rw [meet_get]; omega
theorem cov_meet_r (x y : List Int) : everyB covB y (bySiteL min x y) = true := by rw [cov_iff]; intro i; rw [meet_get]; omega
theorem cov_lub {x y z : List Int} (h1 : everyB covB z x = true) (h2 : everyB covB z y = true) : everyB covB z (bySiteL max x y) = true := by
  rw [cov_iff] at *; intro i; rw [join_get]; have := h1 i; have := h2 i; omega
theorem cov_glb {x y z : List Int} (h1 : everyB covB x z = true) (h2 : everyB covB y z = true) : everyB covB (bySiteL min x y) z = true := by
  rw [cov_iff] at *; intro i; rw [meet_get]; have := h1 i; have := h2 i; omega
theorem join_assoc (x y z : List Int) : everyB eqB (bySiteL max x (bySiteL max y z)) (bySiteL max (bySiteL max x y) z) = true := by
  rw [same_iff]; intro i; rw [join_get, join_get, join_get, join_get]; omega
theorem same_cov (x y : List Int) : everyB eqB x y = (everyB covB x y && everyB covB y x) := by
  rw [Bool.eq_iff_iff, Bool.and_eq_true, same_iff, cov_iff, cov_iff]
  constructor
  · intro h; exact ⟨fun i => by have := h i; omega, fun i => by have := h i; omega⟩
  · intro h i; have := h.1 i; have := h.2 i; omega

/-- The first n numbers together. -/
def sumTo (f : Nat → Int) : Nat → Int
  | 0 => 0
  | n + 1 => sumTo f n + f n
theorem sumTo_congr {f g : Nat → Int} (h : ∀ i, f i = g i) : ∀ n, sumTo f n = sumTo g n
  | 0 => rfl
  | n + 1 => by simp only [sumTo]; rw [sumTo_congr h n, h n]
theorem sumTo_add (f g : Nat → Int) : ∀ n, sumTo f n + sumTo g n = sumTo (fun i => f i + g i) n
  | 0 => rfl
  | n + 1 => by simp only [sumTo]; rw [← sumTo_add f g n]; omega
theorem sumTo_take (l : List Int) : ∀ n, n ≤ l.length → sumTo (fun i => l.getD i 0) n = (l.take n).sum
  | 0, _ => by simp [sumTo]
  | n + 1, h => by
    rw [take_snoc_getD l n (by omega), List.sum_append, ← sumTo_take l n (by omega)]
    simp [sumTo]
theorem sumTo_more (l : List Int) (k : Nat) : sumTo (fun i => l.getD i 0) (l.length + k) = l.sum := by
  induction k with
  | zero => rw [Nat.add_zero, sumTo_take l _ (Nat.le_refl _), List.take_of_length_le (Nat.le_refl _)]
  | succ k ih => rw [← Nat.add_assoc, sumTo, ih, getD_out l _ (by omega)]; omega
theorem sum_eq (l : List Int) (n : Nat) (h : l.length ≤ n) : l.sum = sumTo (fun i => l.getD i 0) n := by
  have := sumTo_more l (n - l.length)
  rw [← this]
  congr 1
  omega
theorem sum_join_meet (x y : List Int) : (bySiteL max x y).sum + (bySiteL min x y).sum = x.sum + y.sum := by
  have n := max x.length y.length
  rw [sum_eq (bySiteL max x y) (max x.length y.length) (by rw [bySiteL_length]; exact Nat.le_refl _), sum_eq (bySiteL min x y) (max x.length y.length) (by rw [bySiteL_length]; exact Nat.le_refl _),
    sum_eq x (max x.length y.length) (by omega), sum_eq y (max x.length y.length) (by omega), sumTo_add, sumTo_add]
  exact sumTo_congr (fun i => by rw [join_get, meet_get]; omega) _

/-- All numbers between 0 and m. -/
def InB (m : Int) (l : List Int) : Prop := ∀ x ∈ l, 0 ≤ x ∧ x ≤ m
theorem InB.get {m : Int} {l : List Int} (h : InB m l) (hm : 0 ≤ m) (i : Nat) : 0 ≤ l.getD i 0 ∧ l.getD i 0 ≤ m := by
  by_cases hi : i < l.length
  · exact h _ (getD_mem l i hi)
  · rw [getD_out l i (by omega)]; exact ⟨Int.le_refl _, hm⟩
theorem InB.site {m : Int} {f : Int → Int → Int} (hf : ∀ a b, 0 ≤ a ∧ a ≤ m → 0 ≤ b ∧ b ≤ m → 0 ≤ f a b ∧ f a b ≤ m) {a b : List Int} (ha : InB m a) (hb : InB m b) (hm : 0 ≤ m) : InB m (bySiteL f a b) := by
  intro x hx
  simp only [bySiteL, List.mem_map] at hx
  obtain ⟨i, _, rfl⟩ := hx
  exact hf _ _ (ha.get hm i) (hb.get hm i)
theorem InB.join {m : Int} {a b : List Int} (ha : InB m a) (hb : InB m b) (hm : 0 ≤ m) : InB m (bySiteL max a b) := ha.site (fun x y h1 h2 => by omega) hb hm
theorem InB.meet {m : Int} {a b : List Int} (ha : InB m a) (hb : InB m b) (hm : 0 ≤ m) : InB m (bySiteL min a b) := ha.site (fun x y h1 h2 => by omega) hb hm
theorem InB.mono {m m' : Int} {l : List Int} (h : InB m l) (hm : m ≤ m') : InB m' l := fun x hx => by have := h x hx; omega
theorem InB.sum {m : Int} {l : List Int} (h : InB m l) : 0 ≤ l.sum ∧ l.sum ≤ m * l.length := by
  induction l with
  | nil => simp
  | cons x l ih =>
    have h1 := h x (by simp)
    have h2 := ih (fun y hy => h y (by simp [hy]))
    rw [List.sum_cons, List.length_cons, Int.natCast_add, Int.mul_add]
    omega

end Go.Proofs.YtndhkbmgpjjepaaDoor

/- Plain laws on vectors in words: what is told is read again. Own work; no statement. -/
set_option linter.unusedSimpArgs false
set_option linter.unusedVariables false
namespace Go.Proofs.YtndhkbmgpjjepaaDoor

theorem digit_val (d : Nat) (h : d < 10) : (UInt8.ofNat (48 + d)).toNat = 48 + d := by
  rw [UInt8.toNat_ofNat']; omega
theorem decDigits_all (u : Nat) : ∀ c ∈ Lib.decDigits u, digB c = true := by
  induction u using Nat.strongRecOn with
  | _ u ih =>
    rw [Lib.decDigits]
    split
    · intro c hc
      rw [List.mem_singleton] at hc
      subst hc
      unfold digB
      rw [digit_val u (by omega)]
      simp; omega
    · intro c hc
      rcases List.mem_append.1 hc with h | h
      · exact ih (u / 10) (by omega) c h
      · rw [List.mem_singleton] at h
        subst h
        unfold digB
        rw [digit_val (u % 10) (by omega)]
        simp; omega
theorem decDigits_ne (u : Nat) : Lib.decDigits u ≠ [] := by
  rw [Lib.decDigits]; split <;> simp
theorem decDigits_head (u : Nat) : u ≠ 0 → (Lib.decDigits u).head? ≠ some 48 := by
  induction u using Nat.strongRecOn with
  | _ u ih =>
    intro h0
    rw [Lib.decDigits]
    split
    · rename_i h
      intro e
      have e2 : UInt8.ofNat (48 + u) = 48 := by simpa using e
      have e3 := congrArg UInt8.toNat e2
      rw [digit_val u h] at e3
      have e4 : (48 : UInt8).toNat = 48 := rfl
      omega
    · have h1 := ih (u / 10) (by omega) (by omega)
      cases h : Lib.decDigits (u / 10) with
      | nil => exact absurd h (decDigits_ne _)
      | cons c r => rw [h] at h1; exact h1
theorem decOk_digits (u : Nat) : decOk (Lib.decDigits u) = true := by
  unfold decOk
  have h1 : (Lib.decDigits u).isEmpty = false := by
    cases h : Lib.decDigits u with
    | nil => exact absurd h (decDigits_ne u)
    | cons _ _ => rfl
  have h2 : (Lib.decDigits u).all digB = true := List.all_eq_true.2 (decDigits_all u)
  rw [h1, h2]
  by_cases h0 : u = 0
  · subst h0
    have : Lib.decDigits 0 = [48] := by rw [Lib.decDigits]; rfl
    rw [this]; rfl
  · have := decDigits_head u h0
    have h3 : ((Lib.decDigits u).head? == some 48) = false := by simpa using this
    rw [h3]; simp
theorem decTo_digits (u : Nat) : decTo (Lib.decDigits u) 0 = min (u : Int) 1048577 := by
  induction u using Nat.strongRecOn with
  | _ u ih =>
    rw [Lib.decDigits]
    split
    · rename_i h
      simp only [decTo]
      rw [digit_val u h]
      omega
    · rw [decTo_snoc, ih (u / 10) (by omega), digit_val (u % 10) (by omega)]
      omega
theorem itoa_nat (x : Int) (h : 0 ≤ x) : Lib.itoa x = Lib.decDigits x.toNat := by unfold Lib.itoa; rw [if_neg (by omega)]
theorem no_blank (u : Nat) : ∀ c ∈ Lib.decDigits u, c ≠ 32 := by
  intro c hc e
  have := decDigits_all u c hc
  subst e
  revert this
  decide

theorem splitL_word : ∀ (l : List UInt8), (∀ c ∈ l, c ≠ 32) → splitL l = [l]
  | [], _ => rfl
  | c :: r, h => by
    simp only [splitL]
    rw [if_neg (h c (by simp)), splitL_word r (fun d hd => h d (by simp [hd]))]
theorem splitL_append : ∀ (a b : List UInt8), splitL (a ++ 32 :: b) = splitL a ++ splitL b
  | [], b => by simp [splitL]
  | c :: r, b => by
    simp only [List.cons_append, splitL]
    rw [splitL_append r b]
    split
    · simp
    · cases h : splitL r with
      | nil => exact absurd h (splitL_ne r)
      | cons x xs => simp

/-- The numbers are such as a vector may have. -/
def InS (l : List Int) : Prop := ∀ x ∈ l, 0 ≤ x ∧ x ≤ 1048576
theorem getD_inS {l : List Int} (h : InS l) (k : Nat) : 0 ≤ l.getD k 0 ∧ l.getD k 0 ≤ 1048576 := by
  by_cases hk : k < l.length
  · exact h _ (getD_mem l k hk)
  · rw [getD_out l k (by omega)]; omega
def wordsTo (l : List Int) (k : Nat) : List (List UInt8) := (List.range k).map fun i => Lib.itoa (l.getD i 0)
theorem wordsTo_succ (l : List Int) (k : Nat) : wordsTo l (k + 1) = wordsTo l k ++ [Lib.itoa (l.getD k 0)] := by simp [wordsTo, List.range_succ]
theorem split_nums {l : List Int} (h : InS l) : ∀ k, splitL (numsTo l (k + 1)) = wordsTo l (k + 1)
  | 0 => by
    simp only [numsTo]
    rw [itoa_nat _ (getD_inS h 0).1]
    simp only [if_true, List.nil_append]
    rw [splitL_word _ (no_blank _), wordsTo_succ, itoa_nat _ (getD_inS h 0).1]
    rfl
  | k + 1 => by
    rw [numsTo, if_neg (by omega)]
    simp only [List.cons_append, List.nil_append]
    rw [splitL_append, split_nums h k, wordsTo_succ l (k + 1), itoa_nat _ (getD_inS h (k + 1)).1, splitL_word _ (no_blank _)]
theorem words_ok {l : List Int} (h : InS l) (k : Nat) : (wordsTo l k).all decOk = true := by
  rw [List.all_eq_true]
  intro x hx
  obtain ⟨i, -, rfl⟩ := List.mem_map.1 hx
  rw [itoa_nat _ (getD_inS h i).1]
  exact decOk_digits _
theorem dec_itoa {x : Int} (h0 : 0 ≤ x) (h1 : x ≤ 1048577) : decTo (Lib.itoa x) 0 = x := by
  rw [itoa_nat _ h0, decTo_digits]; omega
theorem st_words {l : List Int} (h : InS l) (h8 : l.length ≤ 8) : ∀ k, k < l.length → stOf (wordsTo l (k + 1)) = (l.take (k + 1), l.getD k 0, false)
  | 0, hk => by
    have hx := getD_inS h 0
    rw [wordsTo_succ, stOf_snoc, take_snoc_getD l 0 hk]
    simp only [wordsTo, List.range_zero, List.map_nil, stOf, List.foldl_nil, stepW, dec_itoa hx.1 (by omega : l.getD 0 0 ≤ 1048577)]
    rw [if_neg (by rintro (h | h); · omega
                   · simp at h)]
    simp
  | k + 1, hk => by
    have hx := getD_inS h (k + 1)
    rw [wordsTo_succ, stOf_snoc, st_words h h8 k (by omega), take_snoc_getD l (k + 1) hk]
    simp only [stepW, dec_itoa hx.1 (by omega : l.getD (k + 1) 0 ≤ 1048577)]
    rw [if_neg (by rw [List.length_take]; omega)]

theorem writtenL_last (l : List Int) : ∀ k, writtenL l = k + 1 → l.getD k 0 ≠ 0 := by
  obtain ⟨r, rfl⟩ : ∃ r : List Int, l = r.reverse := ⟨l.reverse, by simp⟩
  induction r with
  | nil => intro k h; simp [writtenL] at h
  | cons x r ih =>
    intro k h
    rw [List.reverse_cons] at h ⊢
    generalize r.reverse = l at ih h ⊢
    by_cases hx : x = 0
    · subst hx
      rw [writtenL_snoc_zero] at h
      have hl := writtenL_le l
      have := ih k h
      rw [List.getD, List.getElem?_append_left (by omega)]
      exact this
    · rw [writtenL_snoc l x hx] at h
      obtain rfl : k = l.length := by omega
      rw [List.getD, List.getElem?_append_right (Nat.le_refl _)]
      simpa using hx
theorem writtenL_past (l : List Int) : ∀ i, writtenL l ≤ i → l.getD i 0 = 0 := by
  obtain ⟨r, rfl⟩ : ∃ r : List Int, l = r.reverse := ⟨l.reverse, by simp⟩
  induction r with
  | nil => intro i _; exact getD_out [] i (by simp)
  | cons x r ih =>
    intro i h
    rw [List.reverse_cons] at h ⊢
    generalize r.reverse = l at ih h ⊢
    by_cases hx : x = 0
    · subst hx
      rw [writtenL_snoc_zero] at h
      by_cases hi : i < l.length
      · rw [List.getD, List.getElem?_append_left hi]; exact ih i h
      · rw [List.getD, List.getElem?_append_right (by omega)]
        by_cases h2 : i - l.length = 0
        · rw [h2]; rfl
        · rw [List.getElem?_eq_none (by simp; omega)]; rfl
    · rw [writtenL_snoc l x hx] at h
      exact getD_out _ i (by simp; omega)

theorem inner_text (x : List UInt8) : bracketB (91 :: (x ++ [93])) = true ∧ innerL (91 :: (x ++ [93])) = x := by
  have h1 : Lib.hasPrefix (91 :: (x ++ [93])) [91] = true := by simp [Lib.hasPrefix]
  have h2 : Lib.trimPrefix (91 :: (x ++ [93])) [91] = x ++ [93] := by unfold Lib.trimPrefix; rw [if_pos h1]; rfl
  have h3 : Lib.hasSuffix (x ++ [93]) [93] = true := by unfold Lib.hasSuffix; rw [List.isSuffixOf_iff_suffix]; exact List.suffix_append _ _
  refine ⟨by unfold bracketB; rw [h1, h2, h3]; rfl, ?_⟩
  unfold innerL
  rw [h2]
  unfold Lib.trimSuffix
  rw [if_pos h3]
  simp
theorem numsTo_ne (l : List Int) (h : InS l) (k : Nat) : numsTo l (k + 1) ≠ [] := by
  rw [numsTo, itoa_nat _ (getD_inS h k).1]
  intro e
  have := (List.append_eq_nil_iff.1 (List.append_eq_nil_iff.1 e).2).2
  exact decDigits_ne _ this
/-- What is told of a vector that may be is read again, down to its last number that is not 0. -/
theorem parse_text (l : List Int) (h : InS l) (h8 : l.length ≤ 8) : parseL (textL l) = (l.take (writtenL l), 0) := by
  obtain ⟨hb, hi⟩ := inner_text (numsTo l (writtenL l))
  have hle := writtenL_le l
  have hlast := writtenL_last l
  unfold parseL textL
  rw [hb, hi, if_pos rfl]
  cases hw : writtenL l with
  | zero => simp [numsTo]
  | succ k =>
    rw [if_neg (numsTo_ne l h k), split_nums h k]
    unfold parseN
    rw [words_ok h, if_pos rfl, st_words h h8 k (by omega)]
    rw [if_neg (hlast k hw), if_neg (by simp)]
theorem same_written (l : List Int) : everyB eqB l (l.take (writtenL l)) = true := by
  rw [same_iff]
  intro i
  by_cases hi : i < writtenL l
  · rw [List.getD, List.getD, List.getElem?_take, if_pos hi]
  · rw [writtenL_past l i (by omega), getD_out _ i (by rw [List.length_take]; omega)]
theorem check_ok (l : List Int) (h : InS l) (h8 : l.length ≤ 8) : checkL l 8 = 0 := by
  unfold checkL
  rw [if_neg (by omega), if_neg (by omega)]
  clear h8
  induction l with
  | nil => rfl
  | cons x r ih =>
    have := h x (by simp)
    simp only [checkN]
    rw [if_neg (by omega), if_neg (by omega)]
    exact ih (fun y hy => h y (by simp [hy]))
theorem inS_take (l : List Int) (h : InS l) (k : Nat) : InS (l.take k) := fun x hx => h x (List.mem_of_mem_take hx)

end Go.Proofs.YtndhkbmgpjjepaaDoor

/- Plain laws on texts: what is read is told just so. Own work; no statement. -/
set_option linter.unusedSimpArgs false
set_option linter.unusedVariables false
namespace Go.Proofs.YtndhkbmgpjjepaaDoor

/-- Digits' number, however great. -/
def valTo : List UInt8 → Int → Int
  | [], n => n
  | c :: r, n => valTo r (10 * n + ((c.toNat : Int) - 48))
theorem valTo_snoc : ∀ (l : List UInt8) (c : UInt8) (n : Int), valTo (l ++ [c]) n = 10 * valTo l n + ((c.toNat : Int) - 48)
  | [], _, _ => rfl
  | _ :: l, c, _ => valTo_snoc l c _
theorem dig_range {c : UInt8} (h : digB c = true) : 48 ≤ (c.toNat : Int) ∧ (c.toNat : Int) ≤ 57 := by
  simp only [digB, decide_eq_true_eq] at h
  omega
theorem valTo_ge : ∀ (l : List UInt8) (n : Int), (∀ c ∈ l, digB c = true) → 0 ≤ n → n ≤ valTo l n
  | [], n, _, _ => Int.le_refl _
  | c :: l, n, h, h0 => by
    have hc := dig_range (h c (by simp))
    have := valTo_ge l (10 * n + ((c.toNat : Int) - 48)) (fun d hd => h d (by simp [hd])) (by omega)
    simp only [valTo]
    omega
theorem valTo_app (a b : List UInt8) (n : Int) : valTo (a ++ b) n = valTo b (valTo a n) := by
  induction a generalizing n with
  | nil => rfl
  | cons c a ih => exact ih _
theorem decTo_val : ∀ (l : List UInt8) (n : Int), (∀ c ∈ l, digB c = true) → 0 ≤ n → decTo l (min n 1048577) = min (valTo l n) 1048577
  | [], n, _, _ => rfl
  | c :: l, n, h, h0 => by
    have hc := dig_range (h c (by simp))
    simp only [decTo, valTo]
    rw [← decTo_val l _ (fun d hd => h d (by simp [hd])) (by omega)]
    congr 1
    omega
theorem decOk_parts {l : List UInt8} (h : decOk l = true) : l ≠ [] ∧ (1 < l.length → l.head? ≠ some 48) ∧ ∀ c ∈ l, digB c = true := by
  unfold decOk at h
  simp only [Bool.and_eq_true, Bool.not_eq_true', List.all_eq_true] at h
  obtain ⟨⟨h1, h2⟩, h3⟩ := h
  refine ⟨by rintro rfl; simp at h1, fun hl e => ?_, h3⟩
  rw [e] at h2
  simp [hl] at h2
theorem decTo_ok {l : List UInt8} (h : decOk l = true) : decTo l 0 = min (valTo l 0) 1048577 := decTo_val l 0 (decOk_parts h).2.2 (Int.le_refl _)
theorem byte_digit (c : UInt8) (h : digB c = true) (d : Nat) (hd : ((c.toNat : Int) - 48) = d) : UInt8.ofNat (48 + d) = c := by
  have hc := dig_range h
  rw [show 48 + d = c.toNat by omega]
  simp
theorem digits_val (r : List UInt8) : decOk r.reverse = true → Lib.decDigits (valTo r.reverse 0).toNat = r.reverse := by
  induction r with
  | nil => intro h; exact absurd rfl (decOk_parts h).1
  | cons c r ih =>
    intro h
    rw [List.reverse_cons] at h ⊢
    obtain ⟨-, h2, h3⟩ := decOk_parts h
    have hc := h3 c (by simp)
    have hcr := dig_range hc
    obtain ⟨d, hd⟩ : ∃ d : Nat, ((c.toNat : Int) - 48) = d := ⟨((c.toNat : Int) - 48).toNat, by omega⟩
    have hb := byte_digit c hc d hd
    generalize r.reverse = y at *
    rw [valTo_snoc, hd]
    cases y with
    | nil =>
      simp only [valTo]
      rw [show (10 * (0 : Int) + (d : Int)).toNat = d by omega, Lib.decDigits, dif_pos (by omega), hb]
      rfl
    | cons x y =>
      have hx : x ≠ 48 := by
        intro e
        exact h2 (by simp) (by simp [e])
      have hxd := dig_range (h3 x (by simp))
      have hx1 : 1 ≤ (x.toNat : Int) - 48 := by
        have : x.toNat ≠ 48 := fun e => hx (UInt8.toNat_inj.1 e)
        omega
      have hy3 : ∀ c ∈ y, digB c = true := fun e he => h3 e (by simp [he])
      have hge := valTo_ge y (10 * 0 + ((x.toNat : Int) - 48)) hy3 (by omega)
      have hok : decOk (x :: y) = true := by
        unfold decOk
        have hall : (x :: y).all digB = true := List.all_eq_true.2 (fun e he => h3 e (List.mem_append_left _ he))
        rw [hall]
        have : ((x :: y).head? == some 48) = false := by simpa using hx
        rw [this]
        simp
      have hv := ih hok
      have e0 : valTo (x :: y) 0 = valTo y (10 * 0 + ((x.toNat : Int) - 48)) := rfl
      rw [← e0] at hge
      generalize valTo (x :: y) 0 = v at *
      obtain ⟨u, rfl⟩ := Int.eq_ofNat_of_zero_le (show 0 ≤ v by omega)
      rw [Int.toNat_natCast] at hv
      rw [show (10 * (u : Int) + (d : Int)).toNat = 10 * u + d by omega, Lib.decDigits, dif_neg (by omega), show (10 * u + d) / 10 = u by omega, show (10 * u + d) % 10 = d by omega, hv, hb]
theorem itoa_dec {x : List UInt8} (h : decOk x = true) (h1 : decTo x 0 ≤ 1048576) : Lib.itoa (decTo x 0) = x := by
  have e := decTo_ok h
  have h0 := valTo_ge x 0 (decOk_parts h).2.2 (Int.le_refl _)
  have e2 : decTo x 0 = valTo x 0 := by omega
  rw [e2, itoa_nat _ h0]
  have := digits_val x.reverse (by rw [List.reverse_reverse]; exact h)
  rwa [List.reverse_reverse] at this
theorem dec_nonneg {x : List UInt8} (h : decOk x = true) : 0 ≤ decTo x 0 := by
  have e := decTo_ok h
  have h0 := valTo_ge x 0 (decOk_parts h).2.2 (Int.le_refl _)
  omega
theorem dec_zero {x : List UInt8} (h : decOk x = true) : decTo x 0 = 0 ↔ x = [48] := by
  constructor
  · intro h0
    have := itoa_dec h (by omega)
    rw [h0] at this
    rw [← this, itoa_digit 0 (by omega) (by omega)]
    rfl
  · rintro rfl
    rfl

def joinW : List (List UInt8) → List UInt8
  | [] => []
  | [x] => x
  | x :: y :: r => x ++ 32 :: joinW (y :: r)
theorem join_split : ∀ (s : List UInt8), joinW (splitL s) = s
  | [] => rfl
  | c :: r => by
    have ih := join_split r
    simp only [splitL]
    split
    · rename_i h
      cases hr : splitL r with
      | nil => exact absurd hr (splitL_ne r)
      | cons y ys => rw [hr] at ih; rw [joinW, ih, h]; rfl
    · cases hr : splitL r with
      | nil => exact absurd hr (splitL_ne r)
      | cons y ys =>
        rw [hr] at ih
        cases ys with
        | nil => simp only [joinW] at ih ⊢; rw [ih]
        | cons z zs => simp only [joinW] at ih ⊢; rw [← ih]; rfl
theorem splitL_inj {a b : List UInt8} (h : splitL a = splitL b) : a = b := by rw [← join_split a, ← join_split b, h]

theorem st_len (r : List (List UInt8)) : (stOf r.reverse).1.length ≤ r.length := by
  induction r with
  | nil => exact Nat.le_refl _
  | cons x r ih =>
    rw [List.reverse_cons, stOf_snoc]
    unfold stepW
    split
    · simp; omega
    · simp; omega
theorem st_good (r : List (List UInt8)) : (stOf r.reverse).2.2 = false → (stOf r.reverse).1 = r.reverse.map (decTo · 0) ∧ r.length ≤ 8 ∧ ∀ x ∈ r, decTo x 0 ≤ 1048576 := by
  induction r with
  | nil => intro _; exact ⟨rfl, by simp, fun x hx => by cases hx⟩
  | cons x r ih =>
    rw [List.reverse_cons, stOf_snoc]
    unfold stepW
    split
    · intro h; cases h
    · rename_i hc
      intro h
      obtain ⟨h1, h2, h3⟩ := ih h
      have hl : r.length = (stOf r.reverse).1.length := by rw [h1]; simp
      have h8 := stOf_len r.reverse
      refine ⟨by simp only; rw [h1, List.map_append]; rfl, by simp only [List.length_cons]; omega, fun y hy => ?_⟩
      rcases List.mem_cons.1 hy with rfl | hy
      · omega
      · exact h3 y hy
theorem st_bad (r : List (List UInt8)) : (stOf r.reverse).2.2 = true → 8 < r.length ∨ ∃ x ∈ r, 1048576 < decTo x 0 := by
  induction r with
  | nil => intro h; cases h
  | cons x r ih =>
    rw [List.reverse_cons, stOf_snoc]
    unfold stepW
    split
    · rename_i hc
      intro _
      rcases hc with hc | hc
      · exact .inr ⟨x, by simp, hc⟩
      · have := st_len r
        exact .inl (by simp only [List.length_cons]; omega)
    · intro h
      rcases ih h with h | ⟨y, hy, h⟩
      · exact .inl (by simp only [List.length_cons]; omega)
      · exact .inr ⟨y, by simp [hy], h⟩
theorem st_last (ws : List (List UInt8)) (x : List UInt8) : (stOf (ws ++ [x])).2.1 = decTo x 0 := by
  rw [stOf_snoc]
  unfold stepW
  split <;> rfl

/-- Words read one after the other, as the reference reads them. -/
def refN (ws : List (List UInt8)) : List Int × Int :=
  if ws.all decOk then (if ws.getLast? = some [48] then ([], 2) else if 8 < ws.length then ([], 4) else if ws.all (fun x => decide (decTo x 0 ≤ 1048576)) then (ws.map (decTo · 0), 0) else ([], 4)) else ([], 2)
theorem parseN_ref (ws : List (List UInt8)) (hne : ws ≠ []) : parseN ws = refN ws := by
  unfold parseN refN
  cases hall : ws.all decOk with
  | false => simp
  | true =>
    rw [if_pos rfl, if_pos rfl]
    obtain ⟨r, rfl⟩ : ∃ r, ws = r.reverse := ⟨ws.reverse, by simp⟩
    cases r with
    | nil => exact absurd rfl hne
    | cons x r =>
      have hx : decOk x = true := List.all_eq_true.1 hall x (by simp)
      have hlast : (stOf (x :: r).reverse).2.1 = decTo x 0 := by rw [List.reverse_cons]; exact st_last _ x
      have hgl : (x :: r).reverse.getLast? = some x := by simp
      rw [hlast, hgl]
      by_cases h0 : decTo x 0 = 0
      · rw [if_pos h0, if_pos (by rw [(dec_zero hx).1 h0])]
      · have hng : ¬ (some x = some [48]) := fun e => h0 ((dec_zero hx).2 (Option.some.inj e))
        rw [if_neg h0, if_neg hng]
        cases hlong : (stOf (x :: r).reverse).2.2 with
        | false =>
          obtain ⟨h1, h2, h3⟩ := st_good (x :: r) hlong
          rw [if_neg (show ¬ (false = true) by simp), if_neg (show ¬ (8 < (x :: r).reverse.length) by rw [List.length_reverse]; omega), if_pos (List.all_eq_true.2 (fun y hy => decide_eq_true (h3 y (List.mem_reverse.1 hy)))), h1]
        | true =>
          rw [if_pos (show true = true from rfl)]
          by_cases h8 : 8 < (x :: r).reverse.length
          · rw [if_pos h8]
          · rw [if_neg h8]
            rcases st_bad (x :: r) hlong with h | ⟨y, hy, h⟩
            · rw [List.length_reverse] at h8; exact absurd h h8
            · rw [if_neg]
              intro e
              have := of_decide_eq_true (List.all_eq_true.1 e y (List.mem_reverse.2 hy))
              omega

theorem writtenL_full (l : List Int) (k : Nat) (hl : l.length = k + 1) (h : l.getD k 0 ≠ 0) : writtenL l = k + 1 := by
  have e : l = l.take k ++ [l.getD k 0] := by rw [← take_snoc_getD l k (by omega), List.take_of_length_le (by omega)]
  rw [e, writtenL_snoc _ _ h, List.length_take]
  omega
theorem bracket_form {s : List UInt8} (h : bracketB s = true) : s = 91 :: (innerL s ++ [93]) := by
  unfold bracketB at h
  rw [Bool.and_eq_true] at h
  obtain ⟨h1, h2⟩ := h
  obtain ⟨t, rfl⟩ : ∃ t, s = 91 :: t := by
    unfold Lib.hasPrefix at h1
    rw [List.isPrefixOf_iff_prefix] at h1
    obtain ⟨t, ht⟩ := h1
    exact ⟨t, ht.symm⟩
  have e1 : Lib.trimPrefix (91 :: t) [91] = t := by unfold Lib.trimPrefix; rw [if_pos h1]; rfl
  rw [e1] at h2
  have h2' := h2
  unfold Lib.hasSuffix at h2
  rw [List.isSuffixOf_iff_suffix] at h2
  obtain ⟨u, rfl⟩ := h2
  exact (congrArg (fun z => (91 : UInt8) :: (z ++ [93])) (inner_text u).2).symm
/-- What is a vector is told just so. -/
theorem text_parse {s : List UInt8} (h : (parseL s).2 = 0) : textL (parseL s).1 = s := by
  unfold parseL at h ⊢
  by_cases hb : bracketB s = true
  · rw [if_pos hb] at h ⊢
    have hs := bracket_form hb
    by_cases hi : innerL s = []
    · rw [if_pos hi]
      rw [hi] at hs
      rw [hs]
      rfl
    · rw [if_neg hi] at h ⊢
      rw [parseN_ref _ (splitL_ne _)] at h ⊢
      obtain ⟨ws, hws⟩ : ∃ ws, splitL (innerL s) = ws := ⟨_, rfl⟩
      rw [hws] at h ⊢
      have hne : ws ≠ [] := by rw [← hws]; exact splitL_ne _
      unfold refN at h ⊢
      by_cases hall : ws.all decOk = true
      · rw [if_pos hall] at h ⊢
        by_cases hl : ws.getLast? = some [48]
        · rw [if_pos hl] at h; cases h
        · rw [if_neg hl] at h ⊢
          by_cases h8 : 8 < ws.length
          · rw [if_pos h8] at h; cases h
          · rw [if_neg h8] at h ⊢
            by_cases hle : ws.all (fun x => decide (decTo x 0 ≤ 1048576)) = true
            · rw [if_pos hle]
              have hok : ∀ x ∈ ws, decOk x = true := List.all_eq_true.1 hall
              have hsm : ∀ x ∈ ws, decTo x 0 ≤ 1048576 := fun x hx => of_decide_eq_true (List.all_eq_true.1 hle x hx)
              obtain ⟨k, hk⟩ : ∃ k, ws.length = k + 1 := ⟨ws.length - 1, by have := List.length_pos_iff.2 hne; omega⟩
              have hS : InS (ws.map (decTo · 0)) := by
                intro y hy
                obtain ⟨x, hx, rfl⟩ := List.mem_map.1 hy
                exact ⟨dec_nonneg (hok x hx), hsm x hx⟩
              have hgd : ∀ i (hi : i < ws.length), (ws.map (decTo · 0)).getD i 0 = decTo ws[i] 0 := by
                intro i hi
                rw [getD_in _ i (by simpa using hi)]; simp
              have hw : wordsTo (ws.map (decTo · 0)) (k + 1) = ws := by
                unfold wordsTo
                apply List.ext_getElem
                · simp [hk]
                · intro i h1 h2
                  simp only [List.getElem_map, List.getElem_range]
                  rw [hgd i h2, itoa_dec (hok _ (List.getElem_mem h2)) (hsm _ (List.getElem_mem h2))]
              have hn : numsTo (ws.map (decTo · 0)) (k + 1) = innerL s := splitL_inj (by rw [split_nums hS k, hw, hws])
              have hlast : (ws.map (decTo · 0)).getD k 0 ≠ 0 := by
                rw [hgd k (by omega)]
                intro e
                apply hl
                rw [List.getLast?_eq_getElem?, hk, Nat.add_sub_cancel, List.getElem?_eq_getElem (by omega), (dec_zero (hok _ (List.getElem_mem (by omega)))).1 e]
              unfold textL
              rw [writtenL_full _ k (by simp [hk]) hlast, hn]
              exact hs.symm
            · rw [if_neg hle] at h; cases h
      · rw [if_neg hall] at h; cases h
  · rw [if_neg hb] at h; cases h

end Go.Proofs.YtndhkbmgpjjepaaDoor
