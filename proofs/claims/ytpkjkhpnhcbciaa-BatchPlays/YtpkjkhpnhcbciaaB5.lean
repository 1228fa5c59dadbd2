/- batch's Take: its sequence, walked. Own work; no statement. -/
import Derived.Test.YtpkjkhpnhcbciaaB4
import Derived.Test.YtpkjkhpnhcbciaaW13
set_option linter.unusedSimpArgs false
set_option linter.unusedVariables false
namespace Go.Proofs.Ytpkjkhpnhcbciaa
open Go.RowKit Go.Shelf

attribute [local go_sem] Oper.semAt_some

set_option maxRecDepth 100000 in
set_option maxHeartbeats 4000000 in
theorem btake_seq (bx B p : Nat) (g : Option Nat) (D : BatD) (w : World) (hs : StB B p g bx D 0 w) :
    SeqQ 8 Try.prog 16 #[.pointer (some ⟨bx, 0, none⟩)] (onBat p g) (KpB p g bx) (StB B p g bx D) (GvB D) (fun k => k = (readyB D).length) w := by
  intro lp J Jx W hW hJo hJxo hJT hJX hY h0
  have hs := hs.below hW
  have hon : ∀ c, onBat p g c → c < W.heap.size := fun c hc => (hs.1.on hc).2
  have hxl := hs.2.lt
  have hok : D.ok := by
    have := hs.1.ok
    simpa [takesB] using this
  have HY := hide (fun k T A v h1 h2 h3 n' => yield_any (m := 8 - 1) n' (hY k T A v h1 h2 h3))
  have HJ := hide hJo
  have HJx := hide hJxo
  have HJT := hide hJT
  have HJX := hide hJX
  clear hY hJo hJxo hJT hJX
  have c0 := (hs.2.alloc (.cells #[.func (.yield lp) #[] #[]] 47)).cell
  refine callsIn_of_wp_marks Try.func16 rfl trivial ?_ rfl
  simp only [Try.ntmps16, List.size_toArray, List.length_cons, List.length_nil, Nat.reduceAdd, Nat.reduceSub, Array.replicate_succ, Array.replicate_zero, List.push_toArray, List.append_toArray, List.nil_append, List.cons_append]
  gi_wp2_with (refine ⟨trivial, ?_⟩; gi_at_call 17; refine ((callsIn_wide (n := _)).2 (bfirsts_calls _ _)).mono ?_; rintro en w' ⟨rfl, rfl⟩)
  (try simp only [Nat.add_assoc, Nat.reduceAdd])
  obtain ⟨W3, hW3⟩ : ∃ W3, ((W.alloc (.cells #[.func (.yield lp) #[] #[]] 47)).alloc (.cells #[.pointer (some ⟨p, 0, none⟩)] 24)) = W3 := ⟨_, rfl⟩
  have s3 : W3.heap.size = W.heap.size + 2 := by rw [← hW3]; simp
  have y0 : Boxed W3 W.heap.size 47 (.func (.yield lp) #[] #[]) := by rw [← hW3]; exact (boxed_new' (by simp)).alloc _
  have y1 : Boxed W3 (W.heap.size + 1) 24 (.pointer (some ⟨p, 0, none⟩)) := by rw [← hW3]; exact boxed_new' (by simp)
  have hB3 : Below W.heap.size W W3 := by
    rw [← hW3]
    exact ((Below.refl _ W).alloc (Nat.le_refl _) _).alloc (by simp) _
  have hs3 := hs.below hB3
  have hj3 : ∃ T, J 0 T W3 ∧ ∀ c, T c → c < W.heap.size := by
    obtain ⟨T, hT⟩ := h0
    exact ⟨T, HJX.out 0 T W W3 hT (touch_new hB3), HJT.out 0 T W hT⟩
  rw [hW3]
  clear hW3 c0 h0
  obtain ⟨s, hsz⟩ : ∃ s, W.heap.size = s := ⟨_, rfl⟩
  rw [hsz] at HY HJ HJx s3 y0 y1 hj3 hon hxl ⊢
  clear hB3 hsz hs
  have Hon := hide hon
  refine range_lawF (by decide) (gf := 19) (lb := #[.pointer (some ⟨s + 1, 0, none⟩)]) rfl (enters_of Try.func19 (by kernel_rfl) rfl)
    (St := fun k Z => IsBat Z B p g (takesB k D) ∧ Boxed Z (s + 1) 24 (.pointer (some ⟨p, 0, none⟩)) ∧ k ≤ (readyB D).length) (Gv := GvB D) (Fin := fun k => k = (readyB D).length) ?seq
    (fun k Z => (∃ T, J k T Z ∧ ∀ c, s ≤ c → c < s + 2 → ¬ T c) ∧ StB B p g bx D k Z ∧ Boxed Z s 47 (.func (.yield lp) #[] #[]) ∧ Boxed Z (s + 1) 24 (.pointer (some ⟨p, 0, none⟩)) ∧ k ≤ (readyB D).length ∧ s + 2 ≤ Z.heap.size)
    (fun c Z => c = .ret ∧ ∃ k, Jx k Z ∧ StB B p g bx D k Z)
    (fun k Z h => ⟨h.2.1.1, h.2.2.2.1, h.2.2.2.2.1⟩) ?hIb ?hI ?hIx (fun v k A C row h _ _ => h) (fun k v A B h hb => h) ?h0
    (fun v a' _ => a' = { tmps := #[.func (.yield lp) #[] #[], .pointer (some ⟨bx, 0, none⟩), .pointer (some ⟨s, 0, none⟩), v, .pointer (some ⟨p, 0, none⟩), .func (.func 19) #[] #[.pointer (some ⟨s + 1, 0, none⟩)], v, undef, undef, undef, undef, undef, undef, undef, undef, undef, undef, undef, undef], defers := [] })
    (fun v a' _ A C row h _ _ => h) ?assign ?body ?done ?stop
  case seq =>
    intro l J2 Jx2 Wx hWx hSt hb2 hY2 h02
    refine (bfirsts_seq 7 (by decide) l (s + 1) B p g D.size (fun k => takesB k D) J2 Jx2 (fun k A h => ⟨(hSt k A h).1, (hSt k A h).2.1⟩) hb2 (fun k => rfl) (fun k A x hJ hk hf => hY2 k A _ hJ ⟨x, by rw [← readyB_first k hk]; exact hf, rfl⟩) Wx h02).mono ?_
    rintro e B2 ⟨h1, ⟨k, hk, hJ⟩ | h2⟩
    · refine ⟨h1, .inl ⟨k, ?_, hJ⟩⟩
      have hle := (hSt k B2 hJ).2.2
      rcases hk with hk | ⟨hk1, hk2⟩
      · have : (readyB D).length ≤ D.size.toNat := by simp [readyB]; omega
        omega
      · rw [readyB_first k hk1] at hk2
        have := List.getElem?_eq_none_iff.1 hk2
        omega
    · exact ⟨h1, .inr h2⟩
  case hIb =>
    rintro k A C ⟨⟨T, h1, h2⟩, h3, h4, h5, h6, h7⟩ hb
    exact ⟨⟨T, HJX.out k T A C h1 (touch_new hb), h2⟩, h3.below hb, boxed_of_heap h4 (hb.block _ h4.lt), boxed_of_heap h5 (hb.block _ h5.lt), h6, Nat.le_trans h7 hb.size⟩
  case hI =>
    rintro k A C row ⟨⟨T, h1, h2⟩, h3, h4, h5, h6, h7⟩ hg hr
    exact ⟨⟨T, OwnFrom.up (HJ.out T) (show s ≤ W3.heap.size by omega) _ A C row h1 hg hr, h2⟩, StB.own (n := W3.heap.size) k A C row h3 hg hr, boxed_own' hg (fun r e => (hr r e).2) h4, boxed_own' hg (fun r e => (hr r e).2) h5, h6, Nat.le_trans h7 hg.size⟩
  case hIx =>
    rintro c A C row ⟨h1, k, h2, h3⟩ hg hr
    exact ⟨h1, k, OwnFrom.up HJx.out (show s ≤ W3.heap.size by omega) _ A C row h2 hg hr, StB.own (n := W3.heap.size) k A C row h3 hg hr⟩
  case h0 =>
    obtain ⟨T, h1, h2⟩ := hj3
    exact ⟨⟨T, h1, fun c hc1 _ hc => by have := h2 c hc; omega⟩, hs3, y0, y1, Nat.zero_le _, by omega⟩
  case assign =>
    rintro l k v X K - ⟨x, -, rfl⟩ hK
    replace hK := hide hK
    gi_wp2
    exact hK.out _ _ (Below.refl _ X) rfl
  case body =>
    rintro l0 k v a' X hl1 ⟨rl, hrl⟩ ⟨⟨T, hJ, hT⟩, hst, hy0, hy1, hle, hXs⟩ ⟨x, hrk, rfl⟩ rfl
    have hkr : k < (readyB D).length := (List.getElem?_eq_some_iff.1 hrk).1
    have hks : (k : Int) < D.size := by
      have : (readyB D).length ≤ D.size.toNat := by simp [readyB]; omega
      omega
    have hf : (takesB k D).L.head? = some x := by rw [readyB_first k hks]; exact hrk
    obtain ⟨ls, hls⟩ : ∃ ls, (takesB k D).L = x :: ls := by
      cases h : (takesB k D).L with
      | nil => rw [h] at hf; cases hf
      | cons y ys => rw [h] at hf; simp at hf; exact ⟨ys, by rw [hf]⟩
    obtain ⟨a, cap, c0, c1, c2, hfz, hv, hr, hp⟩ := hst.1.open
    rw [hls] at c2 hv hr hp
    simp only [List.length_cons] at c2 hv hr hp
    have cb := hst.2.cell
    have HST := hide hst
    have Hr := hide hr
    have Hp := hide hp
    have Hv := hide hv
    have HJk := hide hJ
    have hnb : ¬ onBat p g bx := hst.1.off hst.2 (by decide) (by decide)
    have hns : ¬ onBat p g s := fun h => by have := Hon.out s h; omega
    have hns1 : ¬ onBat p g (s + 1) := fun h => by have := Hon.out (s + 1) h; omega
    clear hst hr hp hv hfz c0 c1 hJ hf hrl
    have cbd : X.drew.cell? ⟨bx, 0, none⟩ = some (.pointer (some ⟨p, 0, none⟩)) := cb
    have cpd : X.drew.cell? ⟨p, 2, none⟩ = some (.slice a (ls.length + 1) cap) := c2
    have hnbp : bx ≠ p := fun e => hnb (.inl e)
    have Hrd := hide (show X.drew.ownsRow B 3 1 (.slice a (ls.length + 1) cap) (ls.length + 1) ((x :: ls).map (Value.int .i64)) from ownsRow_of_heap Hr.out fun _ _ => rfl)
    have Hpd := hide (show X.drew.heap[p]? = _ from Hp.out)
    have Hbd := hide (show IsBat X.drew B p g (takesB k D) from HST.out.1.keep fun _ _ => rfl)
    gi_wp2_with fail
    gi_region_with (refine ⟨trivial, ?_⟩; gi_at_call 18; refine (CallsIn.inRound l0 ((callsIn_wide (n := _)).2 (deleteHead_calls B cap a x ls _ Hrd.out))).mono ?_; rintro e w1 ⟨rfl, hr1, ht1⟩; obtain ⟨hp1, hd1, hT1⟩ := take_mem Hbd.out hls Hpd.out Hv.out Hrd.out hr1 ht1; have hbx1 : w1.heap[bx]? = X.heap[bx]? := ht1.block bx (by simpa using HST.out.2.lt) (fun e => hnb (.inr (Hv.out.symm.trans e))); have cb1 := (boxed_of_heap HST.out.2 hbx1).cell; have e2 := cellsAt hp1 2; have l2 := frozenAt hp1 2; simp only [List.getElem?_toArray, List.getElem?_cons_zero, List.getElem?_cons_succ] at e2; have Hd1 := hide hd1; have HT1 := hide hT1; clear hr1 ht1 hp1 hd1 hT1 hbx1)
    all_goals
      clear cbd cpd cb c2 cb1 l2 e2 Hrd Hpd Hbd Hr Hp Hv
      obtain ⟨W5, hW5⟩ : ∃ W5, w1.setCell ⟨p, 2, none⟩ (.slice a ls.length cap) = W5 := ⟨_, rfl⟩
      rw [hW5] at Hd1 HT1
      have hT5 : Touch (onBat p g) X W5 := (touch_new (S := onBat p g) ((Below.refl _ X).drew)).trans HT1.out
      have hbx5 := hide (hT5.block bx HST.out.2.lt hnb)
      have hst5 : StB B p g bx D (k + 1) W5 := ⟨Hd1.out, boxed_of_heap HST.out.2 hbx5.out⟩
      have q0 : Boxed W5 s 47 (.func (.yield lp) #[] #[]) := boxed_of_heap hy0 (hT5.block s hy0.lt hns)
      have cq0 := q0.cell
      have hJ5 := HJX.out k T X W5 HJk.out hT5
      obtain ⟨fn, tmps, assign, body, hy, hR⟩ := HY.out k T W5 _ hJ5 hst5 ⟨x, hrk, rfl⟩ (8 - 1 - 1 - 1)
      have HS5 := hide hst5
      have k5 : KeepsFrom W3.heap.size X W5 := ⟨hT5.size, fun c o hc h _ => (hT5.block c (ltAt h) (fun e => by have := Hon.out c e; omega)).trans h⟩
      have b5 : ∀ c, s ≤ c → c < s + 2 → W5.heap[c]? = X.heap[c]? := fun c h1 h2 => hT5.block c (by omega) (fun e => by have := Hon.out c e; omega)
      have hsz5 := hT5.size
      rw [hW5]
      clear hT5 hst5 Hd1 HT1 hW5 q0 hJ5
      gi_wp2
      refine RoundIn.mono (show RoundIn (Fence.wide.inRound l0) _ _ _ _ _ _ _ _ _ from hR) ?_
      rintro en C (⟨rfl, ⟨T', hJ', hkt⟩, hkp⟩ | ⟨rfl, hJx', hkf, hkp⟩)
      · gi_wp2
        have b6 : ∀ c, s ≤ c → c < s + 2 → C.heap[c]? = X.heap[c]? := fun c h1 h2 => (hkt.same c h1 (by omega) (hT c h1 h2)).trans (b5 c h1 h2)
        refine ⟨k5.trans ⟨hkt.keep.size, fun c o hc => hkt.keep.same c o (by omega)⟩, ⟨T', hJ', fun c h1 h2 h3 => hT c h1 h2 (hkt.old c (by omega) h3)⟩, HS5.out.kp hkp, boxed_of_heap hy0 (b6 s (Nat.le_refl _) (by omega)), boxed_of_heap hy1 (b6 (s + 1) (by omega) (by omega)), hkr, by have := hkt.keep.size; omega⟩
      · gi_wp2
        exact ⟨k5.trans ⟨hkf.size, fun c o hc => hkf.same c o (by omega)⟩, rfl, k + 1, hJx', HS5.out.kp hkp⟩
  case done =>
    rintro D2 k X hD rfl ⟨⟨T, hJ, hT⟩, hst, -, -, -, -⟩ hK
    gi_wp2
    refine ⟨by simp, .inl ⟨_, _, rfl, run_takeDeferred hK, ?_⟩⟩
    exact ⟨_, results_none rfl _ _ _, ⟨_, rfl⟩, .inl ⟨_, T, rfl, (HJ.out T).putObj _ hJ (by omega) hK rfl, (StB.own (n := W3.heap.size)).putObj _ hst (by omega) hK rfl⟩⟩
  case stop =>
    rintro D2 c X hD ⟨rfl, k, hJ, hst⟩ hK
    gi_wp2
    refine ⟨by simp, .inl ⟨_, _, rfl, run_takeDeferred hK, ?_⟩⟩
    exact ⟨_, results_none rfl _ _ _, ⟨_, rfl⟩, .inr ⟨k, HJx.out.putObj _ hJ (by omega) hK rfl, (StB.own (n := W3.heap.size)).putObj _ hst (by omega) hK rfl⟩⟩

end Go.Proofs.Ytpkjkhpnhcbciaa
