/- Own work: the parts S6, S7, S8p, S8 of the proof, laid together. -/
import Derived.Test.YtjbjjfndkpcciaaGreatDoorPartLogStripes7
import Derived.Test.YtjbjjfndkpcciaaGreatDoorPartLogStripes6
/- seg's parsePut, parse. Own work; no statement. -/
set_option linter.unusedSimpArgs false
set_option linter.unusedVariables false
namespace Go.Proofs.YtjbjjfndkpcciaaGreatDoor
open Go.RowKit Go.Shelf Go.Sort

set_option maxHeartbeats 4000000 in
set_option maxRecDepth 100000 in
theorem parsePut_calls (l : List UInt8) (w : World) (hs : l.length ≤ 1099511627776) :
    Calls Tryz.prog 193 #[.string ⟨l.toArray⟩] w (GivesE w (putE l)) := by
  have u1 := hide (fun w => cut_calls l 32 w hs)
  have m1 := cutL_length l 32
  obtain ⟨o, ho⟩ : ∃ o, putE l = o := ⟨_, rfl⟩
  rw [ho]
  unfold putE at ho
  generalize cutL l 32 = c at *
  obtain ⟨word, text, b0⟩ := c
  dsimp only at *
  have u2 := hide (fun w => numParse_calls ⟨word.toArray⟩ w (by simp only [ByteArray.size, List.size_toArray]; omega))
  simp only [show (⟨word.toArray⟩ : ByteArray).data.toList = word from rfl] at u2
  have u3 := hide (fun w => recParse_calls text w (by omega))
  generalize numL word = p at *
  generalize parseR text = q at *
  obtain ⟨n, b⟩ := p
  obtain ⟨r, ec⟩ := q
  dsimp only at *
  have HB := box_below w (.cells #[.string ⟨#[]⟩, .int .i64 0, .int .i64 0, .int .i64 0, .slice none 0 0, .string ⟨#[]⟩, .string ⟨#[]⟩] 170)
  obtain ⟨W1, hW1⟩ : ∃ W1, w.alloc (.cells #[.string ⟨#[]⟩, .int .i64 0, .int .i64 0, .int .i64 0, .slice none 0 0, .string ⟨#[]⟩, .string ⟨#[]⟩] 170) = W1 := ⟨_, rfl⟩
  have x0 : W1.heap[w.heap.size]? = some (.cells #[.string ⟨#[]⟩, .int .i64 0, .int .i64 0, .int .i64 0, .slice none 0 0, .string ⟨#[]⟩, .string ⟨#[]⟩] 170 (0, 0)) := by rw [← hW1]; exact World.alloc_heap_new w _
  rw [hW1] at HB
  have HW := hide hW1
  have X0 := hide x0
  clear hW1 x0
  have Ho := hide ho
  clear ho
  go_enter Tryz.func193, Tryz.ntmps193
  go_wp2_with (first | (go_at_call 125; rw [HW.out]; refine (u1.out _).mono ?_; rintro e w' ⟨rfl, nq, hw'⟩; subst hw') | (go_at_call 176; refine (u2.out _).mono ?_; rintro e w' ⟨rfl, hw'⟩; subst hw'))
  refine (u3.out _).mono ?_
  rintro e w2 ⟨vr, rfl, ⟨vd, rfl, hown⟩, hB2⟩
  obtain ⟨a, cap, rfl⟩ := ownsRow_slice hown
  have B2 : Below w.heap.size w w2 := HB.trans (((below_draws nq).trans hB2).mono HB.size)
  have x2 := keepB (show (W1.drewN nq).heap[w.heap.size]? = _ from X0.out) hB2
  have lt2 := ltAt x2
  have hs1 := HB.size
  have own2 := ownsRow_low hown hs1
  have T : ∀ v0 v1 v2 v3 v4 v5 v6 W4, (put7 w2 w.heap.size v0 v1 v2 v3 v4 v5 v6).alloc (.cells #[.int .i64 r.site, .int .i64 r.seq, .slice a r.dep.length cap, .string r.key, .string r.val] 36) = W4 → W4.heap[w.heap.size]? = some (.cells #[v0, v1, v2, v3, v4, v5, v6] 170 (0, 0)) ∧ Below w.heap.size w W4 ∧ (∀ k, k < w2.heap.size → k ≠ w.heap.size → W4.heap[k]? = w2.heap[k]?) := by
    rintro v0 v1 v2 v3 v4 v5 v6 W4 rfl
    have hp := put7_heap x2 v0 v1 v2 v3 v4 v5 v6
    have hbb := put7_below B2 (Nat.le_refl _) v0 v1 v2 v3 v4 v5 v6
    have hsz : (put7 w2 w.heap.size v0 v1 v2 v3 v4 v5 v6).heap.size = w2.heap.size := by simp [put7, put5, World.setCell]
    exact ⟨(Below.heap_alloc _ _ _ (ltAt hp)).trans hp, hbb.alloc hbb.size _, fun k hk hne => (Below.heap_alloc _ _ _ (by omega)).trans (put7_other k hne _ _ _ _ _ _ _)⟩
  obtain ⟨k0, k1, k2, k3, k4, k5, k6, f0, f1, f2, f3, f4, f5, f6⟩ := cells7 x2
  have HT := hide T
  have X2 := hide x2
  have O2 := hide own2
  clear T x2 hown own2
  by_cases hok : b = true ∧ ec = 0
  · have e1 := Ho.out
    rw [if_pos hok] at e1
    subst e1
    obtain ⟨rfl, rfl⟩ := hok
    clear Ho
    go_wp2_with fail
    obtain ⟨W4, hW4⟩ : ∃ W4, (put7 w2 w.heap.size (.string ⟨#[112]⟩) (.int .i64 n) (.int .i64 r.site) (.int .i64 r.seq) (.slice a r.dep.length cap) (.string r.key) (.string r.val)).alloc (.cells #[.int .i64 r.site, .int .i64 r.seq, .slice a r.dep.length cap, .string r.key, .string r.val] 36) = W4 := ⟨_, rfl⟩
    obtain ⟨e2, hB4, hoth⟩ := HT.out (.string ⟨#[112]⟩) (.int .i64 n) (.int .i64 r.site) (.int .i64 r.seq) (.slice a r.dep.length cap) (.string r.key) (.string r.val) _ hW4
    unfold put7 put5 at hW4
    rw [hW4]
    clear hW4 k0 k1 k2 k3 k4 k5 k6 f0 f1 f2 f3 f4 f5 f6
    obtain ⟨k0, k1, k2, k3, k4, k5, k6, -, -, -, -, -, -, -⟩ := cells7 e2
    refine bodyPost_ret (v := .tuple #[.agg #[.string ⟨#[112]⟩, .int .i64 n, .int .i64 r.site, .int .i64 r.seq, .slice a r.dep.length cap, .string r.key, .string r.val], .bool true]) (by simp [results, Tryz.f193, go_sem, k0, k1, k2, k3, k4, k5, k6]) rfl ⟨_, rfl, ⟨_, _, _, _, _, _, _, _, _, rfl⟩, fun e h => ?_, hB4⟩
    cases h
    exact ⟨_, rfl, ownsRow_of_heap O2.out fun k hk => hoth k (O2.out.lt k hk).2 fun e => row_not O2.out X2.out (by decide) (by rw [← e]; exact hk.symm)⟩
  · have e1 := Ho.out
    rw [if_neg hok] at e1
    subst e1
    clear Ho
    cases b with
    | false =>
      clear hok
      go_wp2_with fail
      obtain ⟨W4, hW4⟩ : ∃ W4, (put7 w2 w.heap.size (.string ⟨#[]⟩) (.int .i64 0) (.int .i64 0) (.int .i64 0) (.slice none 0 0) (.string ⟨#[]⟩) (.string ⟨#[]⟩)).alloc (.cells #[.int .i64 r.site, .int .i64 r.seq, .slice a r.dep.length cap, .string r.key, .string r.val] 36) = W4 := ⟨_, rfl⟩
      obtain ⟨e2, hB4, hoth⟩ := HT.out (.string ⟨#[]⟩) (.int .i64 0) (.int .i64 0) (.int .i64 0) (.slice none 0 0) (.string ⟨#[]⟩) (.string ⟨#[]⟩) _ hW4
      unfold put7 put5 at hW4
      rw [hW4]
      clear hW4 k0 k1 k2 k3 k4 k5 k6 f0 f1 f2 f3 f4 f5 f6
      obtain ⟨k0, k1, k2, k3, k4, k5, k6, -, -, -, -, -, -, -⟩ := cells7 e2
      exact bodyPost_ret (v := .tuple #[.agg #[.string ⟨#[]⟩, .int .i64 0, .int .i64 0, .int .i64 0, .slice none 0 0, .string ⟨#[]⟩, .string ⟨#[]⟩], .bool false]) (by simp [results, Tryz.f193, go_sem, k0, k1, k2, k3, k4, k5, k6]) rfl ⟨_, rfl, ⟨_, _, _, _, _, _, _, _, _, rfl⟩, fun e h => (by cases h), hB4⟩
    | true =>
      have hec : (ec != 0) = true := by simpa using hok
      have hec' : ¬ ec = 0 := by simpa using hok
      clear hok
      go_wp2_with fail
      obtain ⟨W4, hW4⟩ : ∃ W4, (put7 w2 w.heap.size (.string ⟨#[]⟩) (.int .i64 0) (.int .i64 0) (.int .i64 0) (.slice none 0 0) (.string ⟨#[]⟩) (.string ⟨#[]⟩)).alloc (.cells #[.int .i64 r.site, .int .i64 r.seq, .slice a r.dep.length cap, .string r.key, .string r.val] 36) = W4 := ⟨_, rfl⟩
      obtain ⟨e2, hB4, hoth⟩ := HT.out (.string ⟨#[]⟩) (.int .i64 0) (.int .i64 0) (.int .i64 0) (.slice none 0 0) (.string ⟨#[]⟩) (.string ⟨#[]⟩) _ hW4
      unfold put7 put5 at hW4
      rw [hW4]
      clear hW4 k0 k1 k2 k3 k4 k5 k6 f0 f1 f2 f3 f4 f5 f6
      obtain ⟨k0, k1, k2, k3, k4, k5, k6, -, -, -, -, -, -, -⟩ := cells7 e2
      exact bodyPost_ret (v := .tuple #[.agg #[.string ⟨#[]⟩, .int .i64 0, .int .i64 0, .int .i64 0, .slice none 0 0, .string ⟨#[]⟩, .string ⟨#[]⟩], .bool false]) (by simp [results, Tryz.f193, go_sem, k0, k1, k2, k3, k4, k5, k6]) rfl ⟨_, rfl, ⟨_, _, _, _, _, _, _, _, _, rfl⟩, fun e h => (by cases h), hB4⟩

theorem str_is (l : List UInt8) (c : UInt8) (h : l = [c]) : (l == [c]) = true := by simp [h]
theorem str_isnt (l : List UInt8) (c : UInt8) (h : ¬ l = [c]) : (l == [c]) = false := by simpa using h

set_option maxHeartbeats 4000000 in
set_option maxRecDepth 100000 in
theorem segParse_calls (l : List UInt8) (w : World) (hs : l.length ≤ 1099511627776) :
    Calls Tryz.prog 148 #[.string ⟨l.toArray⟩] w (GivesE w (parseE l)) := by
  have u1 := hide (fun w => cut_calls l 32 w hs)
  have m1 := cutL_length l 32
  obtain ⟨o, ho⟩ : ∃ o, parseE l = o := ⟨_, rfl⟩
  rw [ho]
  rw [parseE_eq] at ho
  generalize cutL l 32 = c at *
  obtain ⟨sign, rest, b0⟩ := c
  dsimp only at *
  have HB := box_below w (.cells #[.string ⟨#[]⟩, .int .i64 0, .int .i64 0, .int .i64 0, .slice none 0 0, .string ⟨#[]⟩, .string ⟨#[]⟩] 170)
  obtain ⟨W1, hW1⟩ : ∃ W1, w.alloc (.cells #[.string ⟨#[]⟩, .int .i64 0, .int .i64 0, .int .i64 0, .slice none 0 0, .string ⟨#[]⟩, .string ⟨#[]⟩] 170) = W1 := ⟨_, rfl⟩
  have x0 : W1.heap[w.heap.size]? = some (.cells #[.string ⟨#[]⟩, .int .i64 0, .int .i64 0, .int .i64 0, .slice none 0 0, .string ⟨#[]⟩, .string ⟨#[]⟩] 170 (0, 0)) := by rw [← hW1]; exact World.alloc_heap_new w _
  rw [hW1] at HB
  have HW := hide hW1
  have X0 := hide x0
  clear hW1 x0
  have Ho := hide ho
  clear ho
  have e0 := Ho.out
  clear Ho
  by_cases hp : sign = [112]
  · rw [if_pos hp] at e0
    have s1 := str_is sign 112 hp
    have u2 := hide (fun w => parsePut_calls rest w (by omega))
    rw [e0] at u2
    clear hp e0
    go_enter Tryz.func148, Tryz.ntmps148
    go_wp2_with (first | (go_at_call 125; rw [HW.out]; refine (u1.out _).mono ?_; rintro e w' ⟨rfl, nq, hw'⟩; subst hw'))
    refine (u2.out _).mono ?_
    rintro e w2 ⟨v, rfl, ⟨pc, pn, ps, pq, pa, pm, pcap, pk, pz, rfl⟩, hE, hB2⟩
    have B2 : Below w.heap.size w w2 := HB.trans (((below_draws nq).trans hB2).mono HB.size)
    have z2 := keepB (show (W1.drewN nq).heap[w.heap.size]? = _ from X0.out) hB2
    obtain ⟨k0, k1, k2, k3, k4, k5, k6, f0, f1, f2, f3, f4, f5, f6⟩ := cells7 z2
    have Z2 := hide z2
    have HE := hide hE
    clear z2 hE
    go_wp2_with fail
    obtain ⟨W4, hW4⟩ : ∃ W4, put7 w2 w.heap.size (.string pc) (.int .i64 pn) (.int .i64 ps) (.int .i64 pq) (.slice pa pm pcap) (.string pk) (.string pz) = W4 := ⟨_, rfl⟩
    have e4 := put7_heap Z2.out (.string pc) (.int .i64 pn) (.int .i64 ps) (.int .i64 pq) (.slice pa pm pcap) (.string pk) (.string pz)
    have B4 := put7_below B2 (Nat.le_refl _) (.string pc) (.int .i64 pn) (.int .i64 ps) (.int .i64 pq) (.slice pa pm pcap) (.string pk) (.string pz)
    have hoth : ∀ k, k ≠ w.heap.size → W4.heap[k]? = w2.heap[k]? := fun k hk => by rw [← hW4]; exact put7_other k hk _ _ _ _ _ _ _
    rw [hW4] at e4 B4
    unfold put7 put5 at hW4
    rw [hW4]
    clear hW4 k0 k1 k2 k3 k4 k5 k6 f0 f1 f2 f3 f4 f5 f6
    obtain ⟨k0, k1, k2, k3, k4, k5, k6, -, -, -, -, -, -, -⟩ := cells7 e4
    refine bodyPost_ret (v := .tuple #[.agg #[.string pc, .int .i64 pn, .int .i64 ps, .int .i64 pq, .slice pa pm pcap, .string pk, .string pz], .bool _]) (by simp [results, Tryz.f148, go_sem, k0, k1, k2, k3, k4, k5, k6]) rfl ⟨_, rfl, ⟨_, _, _, _, _, _, _, _, _, rfl⟩, fun e h => ?_, B4⟩
    obtain ⟨vd, hv, hr⟩ := HE.out e h
    exact ⟨vd, hv, ownsRow_low (ownsRow_of_heap hr fun k hk => hoth k fun e => row_not hr Z2.out (by decide) (by rw [← e]; exact hk.symm)) (by have := HB.size; simpa using this)⟩
  rw [if_neg hp] at e0
  have s1 := str_isnt sign 112 hp
  clear hp
  by_cases hp : sign = [115]
  · rw [if_pos hp] at e0
    have s2 := str_is sign 115 hp
    have u2 := hide (fun w => parseNumber_calls 115 rest w (by omega))
    rw [e0] at u2
    rw [show (⟨#[115]⟩ : ByteArray) = ⟨sign.toArray⟩ by rw [hp]] at u2
    clear hp e0
    go_enter Tryz.func148, Tryz.ntmps148
    go_wp2_with (first | (go_at_call 125; rw [HW.out]; refine (u1.out _).mono ?_; rintro e w' ⟨rfl, nq, hw'⟩; subst hw'))
    refine (u2.out _).mono ?_
    rintro e w2 ⟨v, rfl, ⟨pc, pn, ps, pq, pa, pm, pcap, pk, pz, rfl⟩, hE, hB2⟩
    have B2 : Below w.heap.size w w2 := HB.trans (((below_draws nq).trans hB2).mono HB.size)
    have z2 := keepB (show (W1.drewN nq).heap[w.heap.size]? = _ from X0.out) hB2
    obtain ⟨k0, k1, k2, k3, k4, k5, k6, f0, f1, f2, f3, f4, f5, f6⟩ := cells7 z2
    have Z2 := hide z2
    have HE := hide hE
    clear z2 hE
    go_wp2_with fail
    obtain ⟨W4, hW4⟩ : ∃ W4, put7 w2 w.heap.size (.string pc) (.int .i64 pn) (.int .i64 ps) (.int .i64 pq) (.slice pa pm pcap) (.string pk) (.string pz) = W4 := ⟨_, rfl⟩
    have e4 := put7_heap Z2.out (.string pc) (.int .i64 pn) (.int .i64 ps) (.int .i64 pq) (.slice pa pm pcap) (.string pk) (.string pz)
    have B4 := put7_below B2 (Nat.le_refl _) (.string pc) (.int .i64 pn) (.int .i64 ps) (.int .i64 pq) (.slice pa pm pcap) (.string pk) (.string pz)
    have hoth : ∀ k, k ≠ w.heap.size → W4.heap[k]? = w2.heap[k]? := fun k hk => by rw [← hW4]; exact put7_other k hk _ _ _ _ _ _ _
    rw [hW4] at e4 B4
    unfold put7 put5 at hW4
    rw [hW4]
    clear hW4 k0 k1 k2 k3 k4 k5 k6 f0 f1 f2 f3 f4 f5 f6
    obtain ⟨k0, k1, k2, k3, k4, k5, k6, -, -, -, -, -, -, -⟩ := cells7 e4
    refine bodyPost_ret (v := .tuple #[.agg #[.string pc, .int .i64 pn, .int .i64 ps, .int .i64 pq, .slice pa pm pcap, .string pk, .string pz], .bool _]) (by simp [results, Tryz.f148, go_sem, k0, k1, k2, k3, k4, k5, k6]) rfl ⟨_, rfl, ⟨_, _, _, _, _, _, _, _, _, rfl⟩, fun e h => ?_, B4⟩
    obtain ⟨vd, hv, hr⟩ := HE.out e h
    exact ⟨vd, hv, ownsRow_low (ownsRow_of_heap hr fun k hk => hoth k fun e => row_not hr Z2.out (by decide) (by rw [← e]; exact hk.symm)) (by have := HB.size; simpa using this)⟩
  rw [if_neg hp] at e0
  have s115 := str_isnt sign 115 hp
  clear hp
  by_cases hp : sign = [99]
  · rw [if_pos hp] at e0
    have s2 := str_is sign 99 hp
    have u2 := hide (fun w => parseNumber_calls 99 rest w (by omega))
    rw [e0] at u2
    rw [show (⟨#[99]⟩ : ByteArray) = ⟨sign.toArray⟩ by rw [hp]] at u2
    clear hp e0
    go_enter Tryz.func148, Tryz.ntmps148
    go_wp2_with (first | (go_at_call 125; rw [HW.out]; refine (u1.out _).mono ?_; rintro e w' ⟨rfl, nq, hw'⟩; subst hw'))
    refine (u2.out _).mono ?_
    rintro e w2 ⟨v, rfl, ⟨pc, pn, ps, pq, pa, pm, pcap, pk, pz, rfl⟩, hE, hB2⟩
    have B2 : Below w.heap.size w w2 := HB.trans (((below_draws nq).trans hB2).mono HB.size)
    have z2 := keepB (show (W1.drewN nq).heap[w.heap.size]? = _ from X0.out) hB2
    obtain ⟨k0, k1, k2, k3, k4, k5, k6, f0, f1, f2, f3, f4, f5, f6⟩ := cells7 z2
    have Z2 := hide z2
    have HE := hide hE
    clear z2 hE
    go_wp2_with fail
    obtain ⟨W4, hW4⟩ : ∃ W4, put7 w2 w.heap.size (.string pc) (.int .i64 pn) (.int .i64 ps) (.int .i64 pq) (.slice pa pm pcap) (.string pk) (.string pz) = W4 := ⟨_, rfl⟩
    have e4 := put7_heap Z2.out (.string pc) (.int .i64 pn) (.int .i64 ps) (.int .i64 pq) (.slice pa pm pcap) (.string pk) (.string pz)
    have B4 := put7_below B2 (Nat.le_refl _) (.string pc) (.int .i64 pn) (.int .i64 ps) (.int .i64 pq) (.slice pa pm pcap) (.string pk) (.string pz)
    have hoth : ∀ k, k ≠ w.heap.size → W4.heap[k]? = w2.heap[k]? := fun k hk => by rw [← hW4]; exact put7_other k hk _ _ _ _ _ _ _
    rw [hW4] at e4 B4
    unfold put7 put5 at hW4
    rw [hW4]
    clear hW4 k0 k1 k2 k3 k4 k5 k6 f0 f1 f2 f3 f4 f5 f6
    obtain ⟨k0, k1, k2, k3, k4, k5, k6, -, -, -, -, -, -, -⟩ := cells7 e4
    refine bodyPost_ret (v := .tuple #[.agg #[.string pc, .int .i64 pn, .int .i64 ps, .int .i64 pq, .slice pa pm pcap, .string pk, .string pz], .bool _]) (by simp [results, Tryz.f148, go_sem, k0, k1, k2, k3, k4, k5, k6]) rfl ⟨_, rfl, ⟨_, _, _, _, _, _, _, _, _, rfl⟩, fun e h => ?_, B4⟩
    obtain ⟨vd, hv, hr⟩ := HE.out e h
    exact ⟨vd, hv, ownsRow_low (ownsRow_of_heap hr fun k hk => hoth k fun e => row_not hr Z2.out (by decide) (by rw [← e]; exact hk.symm)) (by have := HB.size; simpa using this)⟩
  rw [if_neg hp] at e0
  have s99 := str_isnt sign 99 hp
  clear hp
  by_cases hp : sign = [116]
  · rw [if_pos hp] at e0
    have s2 := str_is sign 116 hp
    have u2 := hide (fun w => parseNumber_calls 116 rest w (by omega))
    rw [e0] at u2
    rw [show (⟨#[116]⟩ : ByteArray) = ⟨sign.toArray⟩ by rw [hp]] at u2
    clear hp e0
    go_enter Tryz.func148, Tryz.ntmps148
    go_wp2_with (first | (go_at_call 125; rw [HW.out]; refine (u1.out _).mono ?_; rintro e w' ⟨rfl, nq, hw'⟩; subst hw'))
    refine (u2.out _).mono ?_
    rintro e w2 ⟨v, rfl, ⟨pc, pn, ps, pq, pa, pm, pcap, pk, pz, rfl⟩, hE, hB2⟩
    have B2 : Below w.heap.size w w2 := HB.trans (((below_draws nq).trans hB2).mono HB.size)
    have z2 := keepB (show (W1.drewN nq).heap[w.heap.size]? = _ from X0.out) hB2
    obtain ⟨k0, k1, k2, k3, k4, k5, k6, f0, f1, f2, f3, f4, f5, f6⟩ := cells7 z2
    have Z2 := hide z2
    have HE := hide hE
    clear z2 hE
    go_wp2_with fail
    obtain ⟨W4, hW4⟩ : ∃ W4, put7 w2 w.heap.size (.string pc) (.int .i64 pn) (.int .i64 ps) (.int .i64 pq) (.slice pa pm pcap) (.string pk) (.string pz) = W4 := ⟨_, rfl⟩
    have e4 := put7_heap Z2.out (.string pc) (.int .i64 pn) (.int .i64 ps) (.int .i64 pq) (.slice pa pm pcap) (.string pk) (.string pz)
    have B4 := put7_below B2 (Nat.le_refl _) (.string pc) (.int .i64 pn) (.int .i64 ps) (.int .i64 pq) (.slice pa pm pcap) (.string pk) (.string pz)
    have hoth : ∀ k, k ≠ w.heap.size → W4.heap[k]? = w2.heap[k]? := fun k hk => by rw [← hW4]; exact put7_other k hk _ _ _ _ _ _ _
    rw [hW4] at e4 B4
    unfold put7 put5 at hW4
    rw [hW4]
    clear hW4 k0 k1 k2 k3 k4 k5 k6 f0 f1 f2 f3 f4 f5 f6
    obtain ⟨k0, k1, k2, k3, k4, k5, k6, -, -, -, -, -, -, -⟩ := cells7 e4
    refine bodyPost_ret (v := .tuple #[.agg #[.string pc, .int .i64 pn, .int .i64 ps, .int .i64 pq, .slice pa pm pcap, .string pk, .string pz], .bool _]) (by simp [results, Tryz.f148, go_sem, k0, k1, k2, k3, k4, k5, k6]) rfl ⟨_, rfl, ⟨_, _, _, _, _, _, _, _, _, rfl⟩, fun e h => ?_, B4⟩
    obtain ⟨vd, hv, hr⟩ := HE.out e h
    exact ⟨vd, hv, ownsRow_low (ownsRow_of_heap hr fun k hk => hoth k fun e => row_not hr Z2.out (by decide) (by rw [← e]; exact hk.symm)) (by have := HB.size; simpa using this)⟩
  rw [if_neg hp] at e0
  have s116 := str_isnt sign 116 hp
  clear hp
  subst e0
  go_enter Tryz.func148, Tryz.ntmps148
  have z2 := X0.out
  obtain ⟨k0, k1, k2, k3, k4, k5, k6, f0, f1, f2, f3, f4, f5, f6⟩ := cells7 z2
  clear z2
  go_wp2_with (first | (go_at_call 125; rw [HW.out]; refine (u1.out _).mono ?_; rintro e w' ⟨rfl, nq, hw'⟩; subst hw'))
  obtain ⟨W4, hW4⟩ : ∃ W4, put7 (W1.drewN nq) w.heap.size (.string ⟨#[]⟩) (.int .i64 0) (.int .i64 0) (.int .i64 0) (.slice none 0 0) (.string ⟨#[]⟩) (.string ⟨#[]⟩) = W4 := ⟨_, rfl⟩
  have e4 := put7_heap (show (W1.drewN nq).heap[w.heap.size]? = _ from X0.out) (.string ⟨#[]⟩) (.int .i64 0) (.int .i64 0) (.int .i64 0) (.slice none 0 0) (.string ⟨#[]⟩) (.string ⟨#[]⟩)
  have B4 := put7_below (HB.trans (below_draws nq)) (Nat.le_refl _) (.string ⟨#[]⟩) (.int .i64 0) (.int .i64 0) (.int .i64 0) (.slice none 0 0) (.string ⟨#[]⟩) (.string ⟨#[]⟩)
  rw [hW4] at e4 B4
  unfold put7 put5 at hW4
  rw [hW4]
  clear hW4 k0 k1 k2 k3 k4 k5 k6 f0 f1 f2 f3 f4 f5 f6
  obtain ⟨k0, k1, k2, k3, k4, k5, k6, -, -, -, -, -, -, -⟩ := cells7 e4
  exact bodyPost_ret (v := .tuple #[.agg #[.string ⟨#[]⟩, .int .i64 0, .int .i64 0, .int .i64 0, .slice none 0 0, .string ⟨#[]⟩, .string ⟨#[]⟩], .bool false]) (by simp [results, Tryz.f148, go_sem, k0, k1, k2, k3, k4, k5, k6]) rfl ⟨_, rfl, ⟨_, _, _, _, _, _, _, _, _, rfl⟩, fun e h => (by cases h), B4⟩

end Go.Proofs.YtjbjjfndkpcciaaGreatDoor

/- Segments in memory: find, has, may, end. Own work; no statement. -/
set_option linter.unusedSimpArgs false
set_option linter.unusedVariables false
namespace Go.Proofs.YtjbjjfndkpcciaaGreatDoor
open Go.RowKit Go.Shelf Go.Sort

/-- A record at its position, with the place of its line. -/
structure SlotD where
  pos : Int
  line : Nat
  r : RecD

/-- What a segment has. -/
structure SegD where
  D : DiskD
  sealed : Int
  trim : Int
  slots : List SlotD

def poss (S : SegD) : List Int := S.slots.map (·.pos)

def GoodR (r : RecD) : Prop := checkR r 8 = 0

structure SegD.ok (S : SegD) : Prop where
  rising : S.slots.Pairwise fun a b => a.pos < b.pos
  each : ∀ x ∈ S.slots, 0 ≤ x.pos ∧ x.pos ≤ 2147483647 ∧ S.trim ≤ x.pos ∧ x.line ≤ 1048576 ∧ GoodR x.r
  sealed0 : 0 ≤ S.sealed
  sealed1 : S.sealed ≤ 2147483647
  trim0 : 0 ≤ S.trim
  trim1 : S.trim ≤ 2147483647
  few : S.slots.length ≤ S.D.lines.length

/-- At block q there lies a slot, its record's numbers in a row of their own. -/
def SlotAt (w : World) (B q : Nat) (x : SlotD) : Prop :=
  ∃ vd, B ≤ q ∧ w.heap[q]? = some (.cells #[.int .i64 x.pos, .int .i64 (x.line : Int), .int .i64 x.r.site, .int .i64 x.r.seq, vd, .string x.r.key, .string x.r.val] 176 (0, 0)) ∧ w.ownsRow B 3 1 vd x.r.dep.length (x.r.dep.map (Value.int .i64))

/-- The blocks of a segment: its own, its disk's, its row of slots; from c on its slots lie, and their numbers. -/
structure SegM where
  p : Nat
  dp : Nat
  dg : Option Nat
  sg : Option Nat
  c : Nat

def SegM.on (m : SegM) (k : Nat) : Prop := k = m.p ∨ m.sg = some k ∨ onDisk m.dp m.dg k

/-- At block m.p there lies a segment. -/
structure IsSeg (w : World) (B : Nat) (m : SegM) (S : SegD) : Prop where
  ok : S.ok
  low : B ≤ m.p
  cl : m.c ≤ w.heap.size
  disk : IsDisk w B m.dp m.dg S.D
  val : ∃ (v : Value) (qs : List Nat), v.ownBlock = m.sg ∧ qs.length = S.slots.length ∧ w.heap[m.p]? = some (.cells #[ptrV m.dp, .int .i64 S.sealed, .int .i64 S.trim, v] 144 (0, 0)) ∧ w.ownsRow B 177 1 v qs.length (qs.map ptrV) ∧ ∀ i (h : i < qs.length) (h' : i < S.slots.length), SlotAt w m.c qs[i] S.slots[i]

theorem SlotAt.off {w : World} {B q : Nat} {x : SlotD} (h : SlotAt w B q x) {k : Nat} {c : Array Value} {t : TypeId} {f : Nat × Nat} (hk : w.heap[k]? = some (.cells c t f)) (h1 : t ≠ 176) : k ≠ q := fun e => by
  obtain ⟨vd, -, hq, -⟩ := h
  rw [e, hq] at hk
  simp only [Option.some.injEq, Obj.cells.injEq] at hk
  exact h1 hk.2.1.symm

/-- A slot is as it was where no block of its types has turned. -/
theorem SlotAt.keep {w w' : World} {B q : Nat} {x : SlotD} (h : SlotAt w B q x) (hk : ∀ (k : Nat) (c : Array Value) (t : TypeId), w.heap[k]? = some (.cells c t (0, 0)) → (t = 176 ∨ t = 3) → w'.heap[k]? = w.heap[k]?) : SlotAt w' B q x := by
  obtain ⟨vd, hB, hq, hr⟩ := h
  refine ⟨vd, hB, (hk q _ _ hq (.inl rfl)).trans hq, ownsRow_of_heap hr fun k e => ?_⟩
  rcases hr.2 with ⟨rfl, _⟩ | ⟨g, cap, cur, rfl, _, hg, _⟩
  · cases e
  · obtain rfl : g = k := by simpa [Value.ownBlock] using e
    exact hk g _ _ hg (.inr rfl)
theorem SlotAt.below {w w' : World} {B q : Nat} {x : SlotD} (h : SlotAt w B q x) (hb : Below w.heap.size w w') : SlotAt w' B q x :=
  h.keep fun k _ _ hk _ => hb.block k (ltAt hk)

theorem IsSeg.lt {w : World} {B : Nat} {m : SegM} {S : SegD} (h : IsSeg w B m S) : m.p < w.heap.size := by
  obtain ⟨v, qs, _, _, hp, _⟩ := h.val
  exact ltAt hp

/-- What type a block of a segment's has. -/
theorem IsSeg.types {w : World} {B : Nat} {m : SegM} {S : SegD} (h : IsSeg w B m S) {k : Nat} (hk : m.on k) : B ≤ k ∧ k < w.heap.size ∧ ∃ c t, w.heap[k]? = some (.cells c t (0, 0)) ∧ t ≠ 176 ∧ t ≠ 3 := by
  obtain ⟨v, qs, hv, hl, hp, hr, hs⟩ := h.val
  rcases hk with rfl | hk | hk
  · exact ⟨h.low, ltAt hp, _, _, hp, by decide, by decide⟩
  · rcases hr.2 with ⟨rfl, _⟩ | ⟨g, cap, cur, rfl, hb, hg, _⟩
    · rw [← hv] at hk; cases hk
    · obtain rfl : g = k := by rw [← hv] at hk; simpa [Value.ownBlock] using hk
      exact ⟨hb, ltAt hg, _, _, hg, by decide, by decide⟩
  · have := h.disk.on hk
    refine ⟨this.1, this.2, ?_⟩
    obtain ⟨v', hv', hp', hr'⟩ := h.disk.val
    rcases hk with rfl | hk
    · exact ⟨_, _, hp', by decide, by decide⟩
    · rcases hr'.2 with ⟨rfl, _⟩ | ⟨g, cap, cur, rfl, hb, hg, _⟩
      · rw [← hv'] at hk; cases hk
      · obtain rfl : g = k := by rw [← hv'] at hk; simpa [Value.ownBlock] using hk
        exact ⟨_, _, hg, by decide, by decide⟩

/-- A slot of any segment is as it was where only this segment's blocks have turned. -/
theorem SlotAt.touch {w w' : World} {B B' q : Nat} {x : SlotD} {m : SegM} {S : SegD} (h : SlotAt w B q x) (hs : IsSeg w B' m S) (t : Touch m.on w w') : SlotAt w' B q x :=
  h.keep fun k c ty hk hty => t.block k (ltAt hk) fun e => by
    obtain ⟨-, -, c', t', h1, h2, h3⟩ := hs.types e
    rw [hk] at h1
    simp only [Option.some.injEq, Obj.cells.injEq] at h1
    rcases hty with e | e
    · exact h2 (h1.2.1.symm.trans e)
    · exact h3 (h1.2.1.symm.trans e)

theorem IsSeg.keep {w w' : World} {B : Nat} {m : SegM} {S : SegD} (h : IsSeg w B m S) (hb : Below w.heap.size w w') : IsSeg w' B m S := by
  obtain ⟨v, qs, hv, hl, hp, hr, hs⟩ := h.val
  exact ⟨h.ok, h.low, Nat.le_trans h.cl hb.size, h.disk.new hb, v, qs, hv, hl, keepB hp hb, own_below hr hb, fun i h1 h2 => (hs i h1 h2).below hb⟩
theorem IsSeg.drews {w : World} {B : Nat} {m : SegM} {S : SegD} (h : IsSeg w B m S) (n : Nat) : IsSeg (w.drewN n) B m S := h.keep (drewsB w n)
theorem IsSeg.lower {w : World} {B B' : Nat} {m : SegM} {S : SegD} (h : IsSeg w B m S) (hB : B' ≤ B) : IsSeg w B' m S := by
  obtain ⟨v, qs, hv, hl, hp, hr, hs⟩ := h.val
  exact ⟨h.ok, Nat.le_trans hB h.low, h.cl, h.disk.lower hB, v, qs, hv, hl, hp, ownsRow_low hr hB, hs⟩
/-- A segment's own changes lie from B on. -/
theorem IsSeg.below {w w' : World} {B : Nat} {m : SegM} {S : SegD} (h : IsSeg w B m S) (hB : B ≤ w.heap.size) (t : Touch m.on w w') : Below B w w' := t.below hB fun _ _ e => (h.types e).1

theorem cells4 {W : World} {b : Nat} {x0 x1 x2 x3 : Value} {t : TypeId} (h : W.heap[b]? = some (.cells #[x0, x1, x2, x3] t (0, 0))) :
    W.cell? ⟨b, 0, none⟩ = some x0 ∧ W.cell? ⟨b, 1, none⟩ = some x1 ∧ W.cell? ⟨b, 2, none⟩ = some x2 ∧ W.cell? ⟨b, 3, none⟩ = some x3 ∧
    W.frozen? ⟨b, 0, none⟩ = false ∧ W.frozen? ⟨b, 1, none⟩ = false ∧ W.frozen? ⟨b, 2, none⟩ = false ∧ W.frozen? ⟨b, 3, none⟩ = false :=
  ⟨by simpa using cellsAt h 0, by simpa using cellsAt h 1, by simpa using cellsAt h 2, by simpa using cellsAt h 3, frozenAt h _, frozenAt h _, frozenAt h _, frozenAt h _⟩

theorem poss_length (S : SegD) : (poss S).length = S.slots.length := by simp [poss]
theorem poss_get (S : SegD) (i : Nat) (h : i < S.slots.length) : (poss S).getD i 0 = S.slots[i].pos := by simp [poss, h]
theorem poss_rising {S : SegD} (h : S.ok) : ∀ a b, a ≤ b → b < (poss S).length → (poss S).getD a 0 ≤ (poss S).getD b 0 := by
  intro a b hab hb
  rw [poss_length] at hb
  rw [poss_get S a (by omega), poss_get S b hb]
  rcases Nat.lt_or_eq_of_le hab with h1 | h1
  · have := List.pairwise_iff_getElem.1 h.rising a b (by omega) hb h1
    omega
  · subst h1
    exact Int.le_refl _
theorem belowN_le (l : List Int) (x : Int) : belowN l x ≤ l.length := List.countP_le_length

set_option maxRecDepth 100000 in
set_option maxHeartbeats 1000000 in
theorem find_calls (B : Nat) (m : SegM) (S : SegD) (pos : Int) (w : World) (hd : IsSeg w B m S) :
    Calls Tryz.prog 132 #[.pointer (some ⟨m.p, 0, none⟩), .int .i64 pos] w fun e w' => e = .returned (.tuple #[.int .i64 (belowN (poss S) pos : Nat), .bool (isAt (poss S) pos)]) ∧ ∃ n, w' = w.drewN n := by
  obtain ⟨v, qs, hv, hl, hp, hr, hs⟩ := hd.val
  have hlen := hd.disk.len
  have hfew := hd.ok.few
  have C := hide (bsearch_calls B v qs (poss S) pos w hr (by omega) (by rw [poss_length, hl]) (fun i hi => by
    rw [poss_get S i (by omega), show qs.getD i 0 = qs[i] by simp [hi]]
    obtain ⟨vd, -, hq, -⟩ := hs i hi (by omega)
    exact (cells7 hq).1) (poss_rising hd.ok))
  obtain ⟨c0, c1, c2, c3, -, -, -, -⟩ := cells4 hp
  obtain ⟨a, cap, rfl⟩ := ownsRow_slice hr
  generalize belowN (poss S) pos = i at *
  generalize isAt (poss S) pos = b at *
  clear hd hr hs hp hv hl
  unfold ptrV at c0
  go_enter Tryz.func132, Tryz.ntmps132
  go_wp2_with fail
  refine C.out.mono ?_
  rintro e w' ⟨rfl, n, rfl⟩
  go_wp2_with fail
  go_ret2
  exact ⟨rfl, n, rfl⟩

set_option maxHeartbeats 1000000 in
theorem has_calls (B : Nat) (m : SegM) (S : SegD) (pos : Int) (w : World) (hd : IsSeg w B m S) :
    Calls Tryz.prog 119 #[.pointer (some ⟨m.p, 0, none⟩), .int .i64 pos] w fun e w' => e = .returned (.bool (isAt (poss S) pos)) ∧ ∃ n, w' = w.drewN n := by
  have C := hide (find_calls B m S pos w hd)
  clear hd
  go_enter Tryz.func119, Tryz.ntmps119
  go_wp2_with fail
  refine C.out.mono ?_
  rintro e w' ⟨rfl, n, rfl⟩
  go_wp2_with fail
  go_ret
  exact ⟨rfl, n, rfl⟩

/-- May an entry stand behind those that are there? -/
def mayS (S : SegD) (e : EntD) : Bool :=
  if e.sign = 112 then decide (S.trim ≤ e.n) && !isAt (poss S) e.n else if e.sign = 115 then decide (S.sealed < e.n) else if e.sign = 116 then decide (S.trim < e.n) else true

theorem one_is (c d : UInt8) (h : c = d) : ((⟨#[c]⟩ : ByteArray).toList == [d]) = true := by rw [Lib.toList_data]; simp [h]
theorem one_isnt (c d : UInt8) (h : ¬ c = d) : ((⟨#[c]⟩ : ByteArray).toList == [d]) = false := by rw [Lib.toList_data]; simp [h]

set_option maxHeartbeats 4000000 in
set_option maxRecDepth 100000 in
theorem may_calls (B B' : Nat) (m : SegM) (S : SegD) (v : Value) (e : EntD) (w : World) (hd : IsSeg w B m S) (hv : IsEnt w B' v e) :
    Calls Tryz.prog 149 #[.pointer (some ⟨m.p, 0, none⟩), v] w fun x w' => x = .returned (.bool (mayS S e)) ∧ Below w.heap.size w w' := by
  obtain ⟨vd, rfl, hr⟩ := hv
  obtain ⟨a, cap, rfl⟩ := ownsRow_slice hr
  obtain ⟨sign, n, r⟩ := e
  dsimp only at *
  clear hr
  obtain ⟨o, ho⟩ : ∃ o, mayS S ⟨sign, n, r⟩ = o := ⟨_, rfl⟩
  rw [ho]
  unfold mayS at ho
  dsimp only at ho
  obtain ⟨P, hP⟩ : ∃ P : ByteArray, (⟨#[sign]⟩ : ByteArray) = P := ⟨_, rfl⟩
  have o1 : ∀ d, sign = d → (P.toList == [d]) = true := fun d h => by rw [← hP]; exact one_is sign d h
  have o2 : ∀ d, ¬ sign = d → (P.toList == [d]) = false := fun d h => by rw [← hP]; exact one_isnt sign d h
  rw [hP]
  clear hP
  have HB := box_below w (.cells #[.string P, .int .i64 n, .int .i64 r.site, .int .i64 r.seq, .slice a r.dep.length cap, .string r.key, .string r.val] 170)
  obtain ⟨W1, hW1⟩ : ∃ W1, w.alloc (.cells #[.string P, .int .i64 n, .int .i64 r.site, .int .i64 r.seq, .slice a r.dep.length cap, .string r.key, .string r.val] 170) = W1 := ⟨_, rfl⟩
  have x0 : W1.heap[w.heap.size]? = some (.cells #[.string P, .int .i64 n, .int .i64 r.site, .int .i64 r.seq, .slice a r.dep.length cap, .string r.key, .string r.val] 170 (0, 0)) := by rw [← hW1]; exact World.alloc_heap_new w _
  rw [hW1] at HB
  have hd1 := hd.keep HB
  obtain ⟨vs, qs, -, hl, hp, hr, -⟩ := hd1.val
  obtain ⟨c0, c1, c2, c3, -, -, -, -⟩ := cells4 hp
  obtain ⟨k0, k1, -, -, -, -, -, -, -, -, -, -, -, -⟩ := cells7 x0
  have b1 := hd.ok.sealed0
  have b2 := hd.ok.sealed1
  have b3 := hd.ok.trim0
  have b4 := hd.ok.trim1
  have u1 := hide (fun nq => has_calls B m S n (W1.drewN nq) (hd1.drews nq))
  generalize isAt (poss S) n = q at *
  have HW := hide hW1
  clear hd hd1 hp hr hl x0 hW1 c0 c3
  by_cases h1 : sign = 112
  · rw [if_pos h1] at ho
    have s1 := o1 112 h1
    clear o1 o2 h1
    by_cases ht : S.trim ≤ n
    · rw [decide_eq_true ht, Bool.true_and] at ho
      subst ho
      go_enter Tryz.func149, Tryz.ntmps149
      go_wp2_with fail
      rw [HW.out]
      go_quiet (first | (go_at_call 119; refine Calls.quiet_of (u1.out _)))
      go_wp2_with fail
      go_ret
      exact ⟨by simp_all, HB.trans ((drewsB W1 _).mono HB.size)⟩
    · rw [decide_eq_false ht, Bool.false_and] at ho
      subst ho
      have hdt : decide (S.trim ≤ n) = false := decide_eq_false ht
      go_enter Tryz.func149, Tryz.ntmps149
      go_wp2_with fail
      rw [HW.out]
      go_quiet (first | (go_at_call 119; refine Calls.quiet_of (u1.out _)))
      go_wp2_with fail
      go_ret
      exact ⟨by simp_all, HB.trans ((drewsB W1 _).mono HB.size)⟩
  · rw [if_neg h1] at ho
    have s1 := o2 112 h1
    clear h1
    by_cases h2 : sign = 115
    · rw [if_pos h2] at ho
      have s2 := o1 115 h2
      clear o1 o2 h2
      subst ho
      go_enter Tryz.func149, Tryz.ntmps149
      go_wp2_with fail
      rw [HW.out]
      go_quiet (fail)
      go_wp2_with fail
      go_ret
      exact ⟨by simp_all, HB.trans ((drewsB W1 _).mono HB.size)⟩
    · rw [if_neg h2] at ho
      have s2 := o2 115 h2
      clear h2
      by_cases h3 : sign = 116
      · rw [if_pos h3] at ho
        have s3 := o1 116 h3
        clear o1 o2 h3
        subst ho
        go_enter Tryz.func149, Tryz.ntmps149
        go_wp2_with fail
        rw [HW.out]
        go_quiet (fail)
        go_wp2_with fail
        go_ret
        exact ⟨by simp_all, HB.trans ((drewsB W1 _).mono HB.size)⟩
      · rw [if_neg h3] at ho
        have s3 := o2 116 h3
        clear o1 o2 h3
        subst ho
        go_enter Tryz.func149, Tryz.ntmps149
        go_wp2_with fail
        rw [HW.out]
        go_ret
        exact ⟨rfl, HB⟩

end Go.Proofs.YtjbjjfndkpcciaaGreatDoor

/- Rising numbers; what entries make of a segment: pure laws. Own work; no statement. -/
set_option linter.unusedSimpArgs false
set_option linter.unusedVariables false
namespace Go.Proofs.YtjbjjfndkpcciaaGreatDoor

theorem belowN_none (l : List Int) (x : Int) (h : ∀ y ∈ l, x ≤ y) : belowN l x = 0 := by
  unfold belowN
  rw [List.countP_eq_zero]
  intro y hy
  have := h y hy
  simp; omega

theorem belowN_split : ∀ (l : List Int) (x : Int), l.Pairwise (· < ·) → (∀ y ∈ l.take (belowN l x), y < x) ∧ (∀ y ∈ l.drop (belowN l x), x ≤ y)
  | [], x, _ => by simp [belowN]
  | a :: r, x, h => by
    rw [List.pairwise_cons] at h
    by_cases ha : a < x
    · have e : belowN (a :: r) x = belowN r x + 1 := by unfold belowN; rw [List.countP_cons_of_pos (by simpa using ha)]
      have ih := belowN_split r x h.2
      rw [e, List.take_succ_cons, List.drop_succ_cons]
      refine ⟨fun y hy => ?_, ih.2⟩
      rcases List.mem_cons.1 hy with rfl | hy
      · exact ha
      · exact ih.1 y hy
    · have e : belowN (a :: r) x = 0 := belowN_none _ _ fun y hy => by
        rcases List.mem_cons.1 hy with rfl | hy
        · omega
        · have := h.1 y hy; omega
      rw [e]
      refine ⟨by simp, fun y hy => ?_⟩
      rw [List.drop_zero] at hy
      rcases List.mem_cons.1 hy with rfl | hy
      · omega
      · have := h.1 y hy; omega

theorem isAt_iff (l : List Int) (x : Int) (h : l.Pairwise (· < ·)) : isAt l x = true ↔ x ∈ l := by
  have hs := belowN_split l x h
  unfold isAt
  rw [Bool.and_eq_true, decide_eq_true_eq, decide_eq_true_eq]
  constructor
  · rintro ⟨h1, h2⟩
    rw [List.getD_eq_getElem?_getD, List.getElem?_eq_getElem h1, Option.getD_some] at h2
    rw [← h2]
    exact List.getElem_mem _
  · intro hx
    have h1 : x ∈ l.drop (belowN l x) := by
      rw [← List.take_append_drop (belowN l x) l] at hx
      rcases List.mem_append.1 hx with hx | hx
      · have := hs.1 x hx; omega
      · exact hx
    have hlt : belowN l x < l.length := by
      have := List.length_pos_of_mem h1
      simp at this
      omega
    refine ⟨hlt, ?_⟩
    rw [List.getD_eq_getElem?_getD, List.getElem?_eq_getElem hlt, Option.getD_some]
    have h2 : l.drop (belowN l x) = l[belowN l x] :: l.drop (belowN l x + 1) := List.drop_eq_getElem_cons hlt
    have hge : x ≤ l[belowN l x] := hs.2 _ (h2 ▸ List.mem_cons_self)
    rw [h2] at h1
    rcases List.mem_cons.1 h1 with h3 | h3
    · exact h3.symm
    · have hp : (l.drop (belowN l x)).Pairwise (· < ·) := h.sublist (List.drop_sublist _ _)
      rw [h2, List.pairwise_cons] at hp
      have := hp.1 x h3
      omega

theorem poss_pairwise {S : SegD} (h : S.ok) : (poss S).Pairwise (· < ·) := by
  unfold poss
  rw [List.pairwise_map]
  exact h.rising

theorem slots_split {S : SegD} (h : S.ok) (n : Int) : (∀ x ∈ S.slots.take (belowN (poss S) n), x.pos < n) ∧ (∀ x ∈ S.slots.drop (belowN (poss S) n), n ≤ x.pos) := by
  have hs := belowN_split (poss S) n (poss_pairwise h)
  refine ⟨fun x hx => hs.1 x.pos ?_, fun x hx => hs.2 x.pos ?_⟩
  · unfold poss
    rw [← List.map_take]
    exact List.mem_map_of_mem hx
  · unfold poss
    rw [← List.map_drop]
    exact List.mem_map_of_mem hx

theorem put_ok {S : SegD} (h : S.ok) {n : Int} {place : Nat} {r : RecD} (ht : S.trim ≤ n) (hat : isAt (poss S) n = false) (hn : n ≤ 2147483647) (hp : place ≤ 1048576) (hg : GoodR r) (hf : S.slots.length < S.D.lines.length) :
    SegD.ok { S with slots := insL S.slots (belowN (poss S) n) ⟨n, place, r⟩ } := by
  have hs := slots_split h n
  have hle : belowN (poss S) n ≤ S.slots.length := by have := belowN_le (poss S) n; rw [poss_length] at this; exact this
  have hne : ∀ x ∈ S.slots, x.pos ≠ n := fun x hx e => by
    have : isAt (poss S) n = true := (isAt_iff _ _ (poss_pairwise h)).2 (by rw [← e]; exact List.mem_map_of_mem hx)
    rw [hat] at this
    cases this
  have h0 := h.trim0
  refine ⟨?_, ?_, h.sealed0, h.sealed1, h.trim0, h.trim1, by dsimp only; rw [insL_length _ _ _ hle]; omega⟩
  · dsimp only
    unfold insL
    rw [List.pairwise_append]
    refine ⟨h.rising.sublist (List.take_sublist _ _), ?_, ?_⟩
    · rw [List.pairwise_cons]
      refine ⟨fun x hx => ?_, h.rising.sublist (List.drop_sublist _ _)⟩
      have h1 := hs.2 x hx
      have h2 := hne x (List.mem_of_mem_drop hx)
      dsimp only
      omega
    · intro x hx y hy
      have h1 := hs.1 x hx
      rcases List.mem_cons.1 hy with rfl | hy
      · exact h1
      · have := hs.2 y hy; omega
  · intro x hx
    dsimp only at hx ⊢
    unfold insL at hx
    rcases List.mem_append.1 hx with hx | hx
    · exact h.each x (List.mem_of_mem_take hx)
    · rcases List.mem_cons.1 hx with rfl | hx
      · exact ⟨by dsimp only; omega, hn, ht, hp, hg⟩
      · exact h.each x (List.mem_of_mem_drop hx)

theorem take_ok {S : SegD} (h : S.ok) (k : Nat) : SegD.ok { S with slots := S.slots.take k } :=
  ⟨h.rising.sublist (List.take_sublist _ _), fun x hx => h.each x (List.mem_of_mem_take hx), h.sealed0, h.sealed1, h.trim0, h.trim1, by have := h.few; dsimp only; simp; omega⟩
theorem drop_ok {S : SegD} (h : S.ok) (k : Nat) : SegD.ok { S with slots := S.slots.drop k } :=
  ⟨h.rising.sublist (List.drop_sublist _ _), fun x hx => h.each x (List.mem_of_mem_drop hx), h.sealed0, h.sealed1, h.trim0, h.trim1, by have := h.few; dsimp only; simp; omega⟩
theorem trim_ok {S : SegD} (h : S.ok) {n : Int} (h0 : S.trim < n) (h1 : n ≤ 2147483647) : SegD.ok { S with slots := S.slots.drop (belowN (poss S) n), trim := n } := by
  have hs := slots_split h n
  have ht := h.trim0
  refine ⟨h.rising.sublist (List.drop_sublist _ _), fun x hx => ?_, h.sealed0, h.sealed1, by dsimp only; omega, h1, by have := h.few; dsimp only; simp; omega⟩
  obtain ⟨a, b, c, d, e⟩ := h.each x (List.mem_of_mem_drop hx)
  exact ⟨a, b, hs.2 x hx, d, e⟩
theorem seal_ok {S : SegD} (h : S.ok) {n : Int} (h0 : S.sealed < n) (h1 : n ≤ 2147483647) : SegD.ok { S with sealed := n } :=
  ⟨h.rising, h.each, by have := h.sealed0; dsimp only; omega, h1, h.trim0, h.trim1, h.few⟩

end Go.Proofs.YtjbjjfndkpcciaaGreatDoor

/- seg's apply. Own work; no statement. -/
set_option linter.unusedSimpArgs false
set_option linter.unusedVariables false
namespace Go.Proofs.YtjbjjfndkpcciaaGreatDoor
open Go.RowKit Go.Shelf Go.Sort

/-- An entry holds. -/
def applyS (S : SegD) (e : EntD) (place : Nat) : SegD :=
  if e.sign = 112 then { S with slots := insL S.slots (belowN (poss S) e.n) ⟨e.n, place, e.r⟩ }
  else if e.sign = 115 then { S with sealed := e.n }
  else if e.sign = 99 then { S with slots := S.slots.take (belowN (poss S) e.n) }
  else if e.sign = 116 then { S with slots := S.slots.drop (belowN (poss S) e.n), trim := e.n } else S

/-- A segment's disk lies apart from its other blocks. -/
theorem IsSeg.disk_off {w : World} {B : Nat} {m : SegM} {S : SegD} (h : IsSeg w B m S) {k : Nat} (hk : onDisk m.dp m.dg k) : k ≠ m.p ∧ m.sg ≠ some k := by
  obtain ⟨v, qs, hv, hl, hp, hr, hs⟩ := h.val
  obtain ⟨v', hv', hp', hr'⟩ := h.disk.val
  have : ∃ c t, w.heap[k]? = some (.cells c t (0, 0)) ∧ t ≠ 144 ∧ t ≠ 177 := by
    rcases hk with rfl | hk
    · exact ⟨_, _, hp', by decide, by decide⟩
    · rcases hr'.2 with ⟨rfl, _⟩ | ⟨g, cap, cur, rfl, hb, hg, _⟩
      · rw [← hv'] at hk; cases hk
      · obtain rfl : g = k := by rw [← hv'] at hk; simpa [Value.ownBlock] using hk
        exact ⟨_, _, hg, by decide, by decide⟩
  obtain ⟨c, t, hc, h1, h2⟩ := this
  refine ⟨fun e => ?_, fun e => row_not hr hc h2 (by rw [hv, e])⟩
  subst e
  rw [hp] at hc
  simp only [Option.some.injEq, Obj.cells.injEq] at hc
  exact h1 hc.2.1.symm

/-- A segment gets another row of slots. -/
theorem IsSeg.row {w w5 : World} {B : Nat} {m : SegM} {S : SegD} {v v' : Value} {qs' : List Nat} {l : List SlotD} (h : IsSeg w B m S) (hv : v.ownBlock = m.sg) (hl : qs'.length = l.length)
    (hp : w.heap[m.p]? = some (.cells #[ptrV m.dp, .int .i64 S.sealed, .int .i64 S.trim, v] 144 (0, 0))) (hs : ∀ i (h : i < qs'.length) (h' : i < l.length), SlotAt w m.c qs'[i] l[i])
    (hown : w5.ownsRow B 177 1 v' qs'.length (qs'.map ptrV)) (t : Touch (fun k => v.ownBlock = some k) w w5) (hat : ∀ k, v'.ownBlock = some k → v.ownBlock = some k ∨ w.heap.size ≤ k) (hok : SegD.ok { S with slots := l }) :
    IsSeg (w5.setCell ⟨m.p, 3, none⟩ v') B { m with sg := v'.ownBlock } { S with slots := l } ∧ Touch m.on w (w5.setCell ⟨m.p, 3, none⟩ v') ∧ (∀ k, v'.ownBlock = some k → m.sg = some k ∨ w.heap.size ≤ k) ∧
      w5.heap[m.p]? = some (.cells #[ptrV m.dp, .int .i64 S.sealed, .int .i64 S.trim, v] 144 (0, 0)) := by
  have t5 : Touch m.on w w5 := t.mono fun k _ e => .inr (.inl (hv.symm.trans e))
  have t6 : Touch m.on w (w5.setCell ⟨m.p, 3, none⟩ v') := t5.set ⟨m.p, 3, none⟩ v' (.inl rfl)
  obtain ⟨v0, qs0, hv0, hl0, hp0, hr0, hs0⟩ := h.val
  have hpv : m.sg ≠ some m.p := fun e => row_not hr0 hp0 (by decide) (by rw [hv0, e])
  have hp5 : w5.heap[m.p]? = some (.cells #[ptrV m.dp, .int .i64 S.sealed, .int .i64 S.trim, v] 144 (0, 0)) := (t.block m.p (ltAt hp) fun e => hpv (hv.symm.trans e)).trans hp
  have hne : ∀ k, v'.ownBlock = some k → k ≠ m.p := fun k hk e => row_not hown hp5 (by decide) (by rw [hk, e])
  refine ⟨⟨hok, h.low, Nat.le_trans h.cl t6.size, h.disk.keep fun k hk => ?_, v', qs', rfl, hl, by simpa using setAt (j := 3) hp5 v', ownsRow_of_heap hown fun k hk => Below.heap_setCell _ _ _ _ (hne k hk), fun i h1 h2 => (hs i h1 h2).touch h t6⟩, t6, fun k hk => (hat k hk).imp (fun e => hv.symm.trans e) id, hp5⟩
  have ho := h.disk_off hk
  exact (Below.heap_setCell w5 ⟨m.p, 3, none⟩ v' k ho.1).trans (t.block k (h.disk.on hk).2 fun e => ho.2 (hv.symm.trans e))

/-- One of a segment's numbers is set. -/
theorem IsSeg.nums {w : World} {B : Nat} {m : SegM} {S S' : SegD} {W : World} (h : IsSeg w B m S) (hok : S'.ok) (hD : S'.D = S.D) (hs : S'.slots = S.slots) (t : Touch (fun k => k = m.p) w W) (hp : ∀ v, w.heap[m.p]? = some (.cells #[ptrV m.dp, .int .i64 S.sealed, .int .i64 S.trim, v] 144 (0, 0)) → W.heap[m.p]? = some (.cells #[ptrV m.dp, .int .i64 S'.sealed, .int .i64 S'.trim, v] 144 (0, 0))) :
    IsSeg W B m S' ∧ Touch m.on w W := by
  obtain ⟨v, qs, hv, hl, hp0, hr, hsl⟩ := h.val
  have t1 : Touch m.on w W := t.mono fun k _ e => .inl e
  have hpv : m.sg ≠ some m.p := fun e => row_not hr hp0 (by decide) (by rw [hv, e])
  refine ⟨⟨hok, h.low, Nat.le_trans h.cl t1.size, ?_, v, qs, hv, by rw [hs]; exact hl, hp v hp0, ownsRow_of_heap hr fun k hk => t.block k (hr.lt k hk).2 fun e => hpv (by rw [← hv, hk, e]), fun i h1 h2 => ?_⟩, t1⟩
  · rw [hD]
    exact h.disk.keep fun k hk => t.block k (h.disk.on hk).2 (h.disk_off hk).1
  · have := (hsl i h1 (by rw [← hs]; exact h2)).touch h t1
    simpa only [hs] using this

set_option maxHeartbeats 4000000 in
set_option maxRecDepth 100000 in
theorem apply_put (B : Nat) (m : SegM) (S : SegD) (n : Int) (r : RecD) (v : Value) (place : Nat) (w : World) (hd : IsSeg w B m S) (hB : B ≤ w.heap.size) (hv : IsEnt w m.c v ⟨112, n, r⟩) (hm : mayS S ⟨112, n, r⟩ = true) (hn : n ≤ 2147483647) (hg : GoodR r) (hp : place ≤ 1048575) (hf : S.slots.length < S.D.lines.length) :
    Calls Tryz.prog 150 #[.pointer (some ⟨m.p, 0, none⟩), v, .int .i64 (place : Int)] w fun x w' => x = .returned (.tuple #[]) ∧ ∃ sg', IsSeg w' B { m with sg := sg' } (applyS S ⟨112, n, r⟩ place) ∧ Touch m.on w w' ∧ (∀ k, sg' = some k → m.sg = some k ∨ w.heap.size ≤ k) := by
  obtain ⟨vd, rfl, hr⟩ := hv
  obtain ⟨a, cap, rfl⟩ := ownsRow_slice hr
  dsimp only at *
  have HB := box_below w (.cells #[.string ⟨#[112]⟩, .int .i64 n, .int .i64 r.site, .int .i64 r.seq, .slice a r.dep.length cap, .string r.key, .string r.val] 170)
  obtain ⟨W1, hW1⟩ : ∃ W1, w.alloc (.cells #[.string ⟨#[112]⟩, .int .i64 n, .int .i64 r.site, .int .i64 r.seq, .slice a r.dep.length cap, .string r.key, .string r.val] 170) = W1 := ⟨_, rfl⟩
  have x0 : W1.heap[w.heap.size]? = some (.cells #[.string ⟨#[112]⟩, .int .i64 n, .int .i64 r.site, .int .i64 r.seq, .slice a r.dep.length cap, .string r.key, .string r.val] 170 (0, 0)) := by rw [← hW1]; exact World.alloc_heap_new w _
  rw [hW1] at HB
  have hd1 := hd.keep HB
  have u1 := hide (find_calls B m S n W1 hd1)
  obtain ⟨vs, qs, hvs, hl, hp, hr1, hsl⟩ := hd1.val
  obtain ⟨c0, c1, c2, c3, f0, f1, f2, f3⟩ := cells4 hp
  obtain ⟨k0, k1, k2, k3, k4, k5, k6, -, -, -, -, -, -, -⟩ := cells7 x0
  obtain ⟨sa, caps, rfl⟩ := ownsRow_slice hr1
  have HW := hide hW1
  have HL := hide hl
  have Hd := hide hd
  have Hd1 := hide hd1
  have Hr := hide hr
  have Hr1 := hide hr1
  have Hsl := hide hsl
  have Hvs := hide hvs
  have Hp := hide hp
  have hlen := hd.disk.len
  have hfew := hd.ok.few
  clear hd hd1 hp hr hr1 hl x0 hW1 hsl hvs
  have hmay : S.trim ≤ n ∧ isAt (poss S) n = false := by
    unfold mayS at hm
    rw [if_pos rfl, Bool.and_eq_true, decide_eq_true_eq] at hm
    exact ⟨hm.1, by simpa using hm.2⟩
  have hok := put_ok (place := place) (r := r) Hd.out.ok hmay.1 hmay.2 hn (by omega) hg hf
  have hile : belowN (poss S) n ≤ qs.length := by have := belowN_le (poss S) n; rw [poss_length, ← HL.out] at this; exact this
  obtain ⟨q, hq⟩ : ∃ q, isAt (poss S) n = q := ⟨_, rfl⟩
  obtain ⟨i, hi⟩ : ∃ i, belowN (poss S) n = i := ⟨_, rfl⟩
  have hap : applyS S ⟨112, n, r⟩ place = { S with slots := insL S.slots i ⟨n, place, r⟩ } := by unfold applyS; rw [if_pos rfl, hi]
  rw [hi] at hok hile u1
  rw [hq] at u1
  rw [hap]
  have Hok := hide hok
  clear hok hi hq hap hm hmay
  unfold ptrV at c0
  go_enter Tryz.func150, Tryz.ntmps150
  go_wp2_with (go_at_call 132; rw [HW.out]; refine u1.out.mono ?_; rintro e w' ⟨rfl, nq, hw'⟩; subst hw')
  obtain ⟨W2, hW2⟩ : ∃ W2, (W1.drewN nq).drew = W2 := ⟨_, rfl⟩
  have B2 : Below W1.heap.size W1 W2 := by rw [← hW2]; exact ⟨rfl, rfl, rfl, Nat.le_refl _, fun _ _ => rfl⟩
  have hh : W2.heap = W1.heap := by rw [← hW2]; rfl
  have d3 : W2.cell? ⟨m.p, 3, none⟩ = some (.slice sa qs.length caps) := by rw [← hW2]; exact c3
  have l1 : W2.cell? ⟨w.heap.size, 1, none⟩ = some (.int .i64 n) := by rw [← hW2]; exact k1
  have l2 : W2.cell? ⟨w.heap.size, 2, none⟩ = some (.int .i64 r.site) := by rw [← hW2]; exact k2
  have l3 : W2.cell? ⟨w.heap.size, 3, none⟩ = some (.int .i64 r.seq) := by rw [← hW2]; exact k3
  have l4 : W2.cell? ⟨w.heap.size, 4, none⟩ = some (.slice a r.dep.length cap) := by rw [← hW2]; exact k4
  have l5 : W2.cell? ⟨w.heap.size, 5, none⟩ = some (.string r.key) := by rw [← hW2]; exact k5
  have l6 : W2.cell? ⟨w.heap.size, 6, none⟩ = some (.string r.val) := by rw [← hW2]; exact k6
  refine region_headT 15 (fun w2 => w2.cell? ⟨m.p, 3, none⟩ = some (.slice sa qs.length caps) ∧ w2.cell? ⟨w.heap.size, 1, none⟩ = some (.int .i64 n) ∧ w2.cell? ⟨w.heap.size, 2, none⟩ = some (.int .i64 r.site) ∧ w2.cell? ⟨w.heap.size, 3, none⟩ = some (.int .i64 r.seq) ∧ w2.cell? ⟨w.heap.size, 4, none⟩ = some (.slice a r.dep.length cap) ∧ w2.cell? ⟨w.heap.size, 5, none⟩ = some (.string r.key) ∧ w2.cell? ⟨w.heap.size, 6, none⟩ = some (.string r.val)) (by kernel_rfl) (by decide) ?_
  rw [hW2]
  clear hW2 c0 c1 c2 c3 f0 f1 f2 f3 k0 k1 k2 k3 k4 k5 k6
  refine HeadT.take 0 (.pointer (some ⟨m.p, 0, none⟩)) rfl (by kernel_rfl) (.inl ⟨rfl, fun w2 ⟨s0, s1, s2, s3, s4, s5, s6⟩ => by go_simp⟩) ⟨d3, l1, l2, l3, l4, l5, l6⟩ ?_
  refine HeadT.take 1 (.pointer (some ⟨m.p, 0, none⟩)) rfl (by kernel_rfl) (.inl ⟨rfl, fun w2 ⟨s0, s1, s2, s3, s4, s5, s6⟩ => by go_simp⟩) ⟨d3, l1, l2, l3, l4, l5, l6⟩ ?_
  refine HeadT.take 2 (.pointer (some ⟨m.p, 0, none⟩)) rfl (by kernel_rfl) (.inl ⟨rfl, fun w2 ⟨s0, s1, s2, s3, s4, s5, s6⟩ => by go_simp⟩) ⟨d3, l1, l2, l3, l4, l5, l6⟩ ?_
  refine HeadT.take 3 (.pointer (some ⟨m.p, 3, none⟩)) rfl (by kernel_rfl) (.inl ⟨rfl, fun w2 ⟨s0, s1, s2, s3, s4, s5, s6⟩ => by go_simp⟩) ⟨d3, l1, l2, l3, l4, l5, l6⟩ ?_
  refine HeadT.take 4 (.slice sa qs.length caps) rfl (by kernel_rfl) (.inl ⟨rfl, fun w2 ⟨s0, s1, s2, s3, s4, s5, s6⟩ => by go_simp⟩) ⟨d3, l1, l2, l3, l4, l5, l6⟩ ?_
  refine HeadT.take 5 (.int .i64 (i : Int)) rfl (by kernel_rfl) (.inl ⟨rfl, fun w2 ⟨s0, s1, s2, s3, s4, s5, s6⟩ => by go_simp⟩) ⟨d3, l1, l2, l3, l4, l5, l6⟩ ?_
  refine HeadT.take 6 (.pointer (some ⟨w.heap.size, 1, none⟩)) rfl (by kernel_rfl) (.inl ⟨rfl, fun w2 ⟨s0, s1, s2, s3, s4, s5, s6⟩ => by go_simp⟩) ⟨d3, l1, l2, l3, l4, l5, l6⟩ ?_
  refine HeadT.take 7 (.int .i64 n) rfl (by kernel_rfl) (.inl ⟨rfl, fun w2 ⟨s0, s1, s2, s3, s4, s5, s6⟩ => by go_simp⟩) ⟨d3, l1, l2, l3, l4, l5, l6⟩ ?_
  refine HeadT.take 8 (.int .i64 (place : Int)) rfl (by kernel_rfl) (.inl ⟨rfl, fun w2 ⟨s0, s1, s2, s3, s4, s5, s6⟩ => by go_simp⟩) ⟨d3, l1, l2, l3, l4, l5, l6⟩ ?_
  refine HeadT.take 9 (.pointer (some ⟨w.heap.size, 2, none⟩)) rfl (by kernel_rfl) (.inl ⟨rfl, fun w2 ⟨s0, s1, s2, s3, s4, s5, s6⟩ => by go_simp⟩) ⟨d3, l1, l2, l3, l4, l5, l6⟩ ?_
  refine HeadT.take 10 (.agg #[.int .i64 r.site, .int .i64 r.seq, .slice a r.dep.length cap, .string r.key, .string r.val]) rfl (by kernel_rfl) (.inl ⟨rfl, fun w2 ⟨s0, s1, s2, s3, s4, s5, s6⟩ => by go_simp⟩) ⟨d3, l1, l2, l3, l4, l5, l6⟩ ?_
  refine HeadT.take 11 (.agg #[.int .i64 n, .int .i64 (place : Int), .int .i64 r.site, .int .i64 r.seq, .slice a r.dep.length cap, .string r.key, .string r.val]) rfl (by kernel_rfl) (.inl ⟨rfl, fun w2 ⟨s0, s1, s2, s3, s4, s5, s6⟩ => by go_simp⟩) ⟨d3, l1, l2, l3, l4, l5, l6⟩ ?_
  refine HeadT.only 12 (by kernel_rfl) ?_
  obtain ⟨W3, hW3⟩ : ∃ W3, W2.alloc (.cells #[.int .i64 n, .int .i64 (place : Int), .int .i64 r.site, .int .i64 r.seq, .slice a r.dep.length cap, .string r.key, .string r.val] 176) = W3 := ⟨_, rfl⟩
  have B3 : Below W2.heap.size W2 W3 := by rw [← hW3]; exact box_below W2 _
  have y3 : W3.heap[W2.heap.size]? = some (.cells #[.int .i64 n, .int .i64 (place : Int), .int .i64 r.site, .int .i64 r.seq, .slice a r.dep.length cap, .string r.key, .string r.val] 176 (0, 0)) := by rw [← hW3]; exact World.alloc_heap_new W2 _
  have s3 : W3.heap.size = W2.heap.size + 1 := by rw [← hW3]; simp
  refine wpOp_val rfl rfl (v := .pointer (some ⟨W2.heap.size, 0, none⟩)) (w' := W3) (by rw [← hW3]; go_simp) ⟨⟨(B3.cell (p := ⟨m.p, 3, none⟩) (World.block_lt_of_cell? _ _ d3)).trans d3, (B3.cell (p := ⟨w.heap.size, 1, none⟩) (World.block_lt_of_cell? _ _ l1)).trans l1, (B3.cell (p := ⟨w.heap.size, 2, none⟩) (World.block_lt_of_cell? _ _ l2)).trans l2, (B3.cell (p := ⟨w.heap.size, 3, none⟩) (World.block_lt_of_cell? _ _ l3)).trans l3, (B3.cell (p := ⟨w.heap.size, 4, none⟩) (World.block_lt_of_cell? _ _ l4)).trans l4, (B3.cell (p := ⟨w.heap.size, 5, none⟩) (World.block_lt_of_cell? _ _ l5)).trans l5, (B3.cell (p := ⟨w.heap.size, 6, none⟩) (World.block_lt_of_cell? _ _ l6)).trans l6⟩, ?_⟩
  refine HeadT.only 13 (by kernel_rfl) ?_
  obtain ⟨W4, hW4⟩ : ∃ W4, W3.alloc (.cells #[ptrV W2.heap.size] 177) = W4 := ⟨_, rfl⟩
  have B4 : Below W3.heap.size W3 W4 := by rw [← hW4]; exact box_below W3 _
  have z4 : W4.heap[W3.heap.size]? = some (.cells #[ptrV W2.heap.size] 177 (0, 0)) := by rw [← hW4]; exact World.alloc_heap_new W3 _
  have B24 : Below W2.heap.size W2 W4 := B3.trans (B4.mono B3.size)
  have S4 : W4.cell? ⟨m.p, 3, none⟩ = some (.slice sa qs.length caps) ∧ W4.cell? ⟨w.heap.size, 1, none⟩ = some (.int .i64 n) ∧ W4.cell? ⟨w.heap.size, 2, none⟩ = some (.int .i64 r.site) ∧ W4.cell? ⟨w.heap.size, 3, none⟩ = some (.int .i64 r.seq) ∧ W4.cell? ⟨w.heap.size, 4, none⟩ = some (.slice a r.dep.length cap) ∧ W4.cell? ⟨w.heap.size, 5, none⟩ = some (.string r.key) ∧ W4.cell? ⟨w.heap.size, 6, none⟩ = some (.string r.val) :=
    ⟨(B24.cell (p := ⟨m.p, 3, none⟩) (World.block_lt_of_cell? _ _ d3)).trans d3, (B24.cell (p := ⟨w.heap.size, 1, none⟩) (World.block_lt_of_cell? _ _ l1)).trans l1, (B24.cell (p := ⟨w.heap.size, 2, none⟩) (World.block_lt_of_cell? _ _ l2)).trans l2, (B24.cell (p := ⟨w.heap.size, 3, none⟩) (World.block_lt_of_cell? _ _ l3)).trans l3, (B24.cell (p := ⟨w.heap.size, 4, none⟩) (World.block_lt_of_cell? _ _ l4)).trans l4, (B24.cell (p := ⟨w.heap.size, 5, none⟩) (World.block_lt_of_cell? _ _ l5)).trans l5, (B24.cell (p := ⟨w.heap.size, 6, none⟩) (World.block_lt_of_cell? _ _ l6)).trans l6⟩
  refine wpOp_val rfl rfl (v := .slice (some ⟨W3.heap.size, 0, none⟩) 1 1) (w' := W4) (by rw [← hW4]; go_simp; rfl) ⟨S4, ?_⟩
  refine HeadT.only 14 (by kernel_rfl) ?_
  have r4 : W4.ownsRow B 177 1 (.slice sa qs.length caps) qs.length (qs.map ptrV) := own_below (ownsRow_of_heap Hr1.out fun k _ => by rw [hh]) B24
  have hWs : W1.heap.size = W2.heap.size := by rw [hh]
  have hvb : (Value.slice sa qs.length caps).ownBlock ≠ some W3.heap.size := fun e => by
    have := (Hr1.out.lt _ e).2
    omega
  have C := insSlot_calls B (.slice sa qs.length caps) qs i W3.heap.size W2.heap.size W4 r4 (by have := HB.size; have := B24.size; omega) (by have := HL.out; omega) hile z4 hvb
  refine wpOp_call rfl rfl 195 #[.slice sa qs.length caps, .int .i64 (i : Int), .slice (some ⟨W3.heap.size, 0, none⟩) 1 1] (by go_simp) C ?_
  rintro e w5 ⟨v', rfl, hown, ht5, hat5⟩
  have B04 : Below w.heap.size w W4 := HB.trans (((B2.trans (B24.mono B2.size))).mono HB.size)
  have d4 : IsSeg W4 B m S := Hd.out.keep B04
  have p4 : W4.heap[m.p]? = some (.cells #[ptrV m.dp, .int .i64 S.sealed, .int .i64 S.trim, .slice sa qs.length caps] 144 (0, 0)) := keepB (show W2.heap[m.p]? = _ by rw [hh]; exact Hp.out) B24
  have sl : ∀ j (h1 : j < (insL qs i W2.heap.size).length) (h2 : j < (insL S.slots i ⟨n, place, r⟩).length), SlotAt W4 m.c (insL qs i W2.heap.size)[j] (insL S.slots i ⟨n, place, r⟩)[j] := by
    intro j h1 h2
    have hSl := HL.out
    have g1 := insL_get qs i W2.heap.size hile j
    have g2 := insL_get S.slots i ⟨n, place, r⟩ (by omega) j
    rw [List.getElem?_eq_getElem h1] at g1
    rw [List.getElem?_eq_getElem h2] at g2
    have old : ∀ k, k < qs.length → ∀ q s, qs[k]? = some q → S.slots[k]? = some s → SlotAt W4 m.c q s := fun k hk q s e1 e2 => by
      rw [List.getElem?_eq_getElem hk] at e1
      rw [List.getElem?_eq_getElem (by omega)] at e2
      cases e1
      cases e2
      exact (((Hsl.out k hk (by omega)).below B2).below B24)
    rw [insL_length _ _ _ hile] at h1
    by_cases c1 : j < i
    · rw [if_pos c1] at g1 g2
      exact old j (by omega) _ _ g1.symm g2.symm
    · rw [if_neg c1] at g1 g2
      by_cases c2 : j = i
      · rw [if_pos c2] at g1 g2
        rw [Option.some.inj g1, Option.some.inj g2]
        refine ⟨.slice a r.dep.length cap, by have := Hd1.out.cl; omega, keepB y3 B4, own_below (own_below (own_below Hr.out HB) B2) B24⟩
      · rw [if_neg c2] at g1 g2
        exact old (j - 1) (by omega) _ _ g1.symm g2.symm
  obtain ⟨I6, T6, G6, p5⟩ := IsSeg.row d4 Hvs.out (by rw [insL_length _ _ _ hile, insL_length _ _ _ (by have := HL.out; omega), HL.out]) p4 sl hown ht5 hat5 Hok.out
  have d5 := (cells4 p5).2.2.2.1
  have f5 := frozenAt p5 3
  obtain ⟨va, vc, rfl⟩ := ownsRow_slice hown
  have F := hide (show ∃ sg', IsSeg (w5.setCell ⟨m.p, 3, none⟩ (.slice va (insL qs i W2.heap.size).length vc)) B { m with sg := sg' } { S with slots := insL S.slots i ⟨n, place, r⟩ } ∧ Touch m.on w (w5.setCell ⟨m.p, 3, none⟩ (.slice va (insL qs i W2.heap.size).length vc)) ∧ (∀ k, sg' = some k → m.sg = some k ∨ w.heap.size ≤ k) from
    ⟨_, I6, T6.of_touch B04, fun k hk => (G6 k hk).imp id fun h => Nat.le_trans B04.size h⟩)
  have kw : ∀ j x, W4.cell? ⟨w.heap.size, j, none⟩ = some x → w5.cell? ⟨w.heap.size, j, none⟩ = some x := fun j x h => by
    have x1 : w.heap.size < W4.heap.size := World.block_lt_of_cell? _ _ h
    have x2 : (Value.slice sa qs.length caps).ownBlock ≠ some w.heap.size := fun e => by
      have := (Hr1.out.lt _ e)
      rcases (Hd.out.val) with ⟨v0, qs0, hv0, -, hp0, hr0, -⟩
      have h1 := (hr0.lt w.heap.size (by rw [hv0, ← Hvs.out]; exact e)).2
      omega
    rw [World.cell?_of_block (w' := w5) (w := W4) (a := ⟨w.heap.size, j, none⟩) (ht5.block _ x1 x2)]
    exact h
  refine ⟨_, rfl, ⟨d5, kw 1 _ S4.2.1, kw 2 _ S4.2.2.1, kw 3 _ S4.2.2.2.1, kw 4 _ S4.2.2.2.2.1, kw 5 _ S4.2.2.2.2.2.1, kw 6 _ S4.2.2.2.2.2.2⟩, ?_⟩
  refine HeadT.tail rfl (by kernel_rfl) ?_
  clear I6 T6 G6 p5 hown ht5 hat5 sl p4 d4 B04 C hvb r4 S4 z4 B4 B24 hW4 y3 B3 hW3 d3 l1 l2 l3 l4 l5 l6 B2 hh kw
  generalize (insL qs i W2.heap.size).length = ln at *
  simp only [List.drop_succ_cons, List.drop_zero]
  go_wp2_with fail
  simp only [noPanic]
  go_wp2_with fail
  go_end0
  exact ⟨rfl, F.out⟩

end Go.Proofs.YtjbjjfndkpcciaaGreatDoor
