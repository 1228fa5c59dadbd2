/- Own work: the parts R7, RW, RefG, RW2, RW3, RefA, RefB, RefC2 of the proof, laid together. -/
import Derived.Test.YtncmocmmkbmmjaaGreatDoorPartSegLines4
import Derived.Outline
import Derived.Test.YtncmocmmkbmmjaaGreatDoorPartSegLines3
/- rec's Parse: a text as a record. Own work; no statement. -/
set_option linter.unusedSimpArgs false
set_option linter.unusedVariables false
namespace Go.Proofs.YtncmocmmkbmmjaaGreatDoor
open Go.RowKit Go.Sort

def zeroR : RecD := ⟨0, 0, [], ⟨#[]⟩, ⟨#[]⟩⟩
/-- A record's parts as the record, and the error's number. -/
def parseP (ok : Bool) (p1 p2 p3 p4 p5 : List UInt8) : RecD × Int :=
  if ok = true ∧ (numL p1).2 = true ∧ (numL p2).2 = true then
    (if (parseL p3).2 = 0 then
      (if checkR ⟨(numL p1).1, (numL p2).1, (parseL p3).1, ⟨p4.toArray⟩, ⟨p5.toArray⟩⟩ 8 = 0 then (⟨(numL p1).1, (numL p2).1, (parseL p3).1, ⟨p4.toArray⟩, ⟨p5.toArray⟩⟩, 0)
        else (zeroR, checkR ⟨(numL p1).1, (numL p2).1, (parseL p3).1, ⟨p4.toArray⟩, ⟨p5.toArray⟩⟩ 8))
      else (zeroR, (parseL p3).2))
    else (zeroR, 2)
/-- A text as a record, and the error's number. -/
def parseR (s : List UInt8) : RecD × Int :=
  match splitR s with
  | some p => parseP true p.site p.seq p.dep p.key p.val
  | none => parseP false [] [] [] [] []

theorem splitR_length {s : List UInt8} {p : Parts} (h : splitR s = some p) : p.site.length ≤ s.length ∧ p.seq.length ≤ s.length ∧ p.dep.length ≤ s.length ∧ p.key.length ≤ s.length ∧ p.val.length ≤ s.length := by
  unfold splitR at h
  dsimp only at h
  have h1 := cutL_length s 58
  generalize cutL s 58 = c1 at *
  have h2 := cutL_length c1.2.1 32
  generalize cutL c1.2.1 32 = c2 at *
  generalize (Lib.indexByte c2.2.1 93 + 1).toNat = e at *
  have h3 := trimPrefix_length (c2.2.1.drop e) [32]
  have h4 := cutL_length (Lib.trimPrefix (c2.2.1.drop e) [32]) 61
  generalize cutL (Lib.trimPrefix (c2.2.1.drop e) [32]) 61 = c3 at *
  split at h
  · have e1 := Option.some.inj h
    subst e1
    simp only [List.length_drop] at h3
    refine ⟨by dsimp only; omega, by dsimp only; omega, by dsimp only; simp; omega, by dsimp only; omega, by dsimp only; omega⟩
  · cases h

theorem parseL_len (s : List UInt8) : (parseL s).1.length ≤ 8 := by
  unfold parseL parseN
  have := stOf_len (splitL (innerL s))
  split
  · split
    · simp
    · split
      · split
        · simp
        · split
          · simp
          · simpa using this
      · simp
  · simp
theorem own_below {W W' : World} {B : Nat} {e : TypeId} {size : Nat} {v : Value} {n : Nat} {xs : List Value} (h : W.ownsRow B e size v n xs) (hB : Below W.heap.size W W') : W'.ownsRow B e size v n xs :=
  ownsRow_of_heap h fun k hk => hB.block k (h.lt k hk).2
theorem keepB {b : Nat} {o : Obj} {W W' : World} (h : W.heap[b]? = some o) (hB : Below W.heap.size W W') : W'.heap[b]? = some o := (hB.block b (Array.getElem?_eq_some_iff.1 h).1).trans h
theorem ltB {b : Nat} {o : Obj} {W : World} (h : W.heap[b]? = some o) : b < W.heap.size := (Array.getElem?_eq_some_iff.1 h).1

/-- What Parse hands back is in its own block: the end of each way that tells an error. -/
theorem parse_zero {W w : World} {b : Nat} {x0 x1 x2 x3 x4 : Value} {t : TypeId} (h : W.heap[b]? = some (.cells #[x0, x1, x2, x3, x4] t (0, 0))) (hB : Below w.heap.size w W) (hb : w.heap.size ≤ b) :
    ∃ W', put5 W b (.int .i64 0) (.int .i64 0) (.slice none 0 0) (.string ⟨#[]⟩) (.string ⟨#[]⟩) = W' ∧ W'.cell? ⟨b, 0, none⟩ = some (.int .i64 0) ∧ W'.cell? ⟨b, 1, none⟩ = some (.int .i64 0) ∧ W'.cell? ⟨b, 2, none⟩ = some (.slice none 0 0) ∧ W'.cell? ⟨b, 3, none⟩ = some (.string ⟨#[]⟩) ∧ W'.cell? ⟨b, 4, none⟩ = some (.string ⟨#[]⟩) ∧ Below w.heap.size w W' := by
  have e := put5_heap h (.int .i64 0) (.int .i64 0) (.slice none 0 0) (.string ⟨#[]⟩) (.string ⟨#[]⟩)
  exact ⟨_, rfl, cell_at e 0, cell_at e 1, cell_at e 2, cell_at e 3, cell_at e 4, put5_below hB hb _ _ _ _ _⟩
theorem zero_own (B : Nat) (w : World) : OwnRec B w (.agg #[.int .i64 0, .int .i64 0, .slice none 0 0, .string ⟨#[]⟩, .string ⟨#[]⟩]) zeroR := ⟨_, rfl, World.ownsRow_nil _ _ _ _⟩

set_option maxHeartbeats 4000000 in
set_option maxRecDepth 100000 in
theorem recParse_calls (s : List UInt8) (w : World) (hs : s.length ≤ 1099511627776) :
    Calls Tryz.prog 89 #[.string ⟨s.toArray⟩] w fun e w' => ∃ v, e = .returned (.tuple #[v, .int .i64 (parseR s).2]) ∧ OwnRec w.heap.size w' v (parseR s).1 ∧ Below w.heap.size w w' := by
  have u1 := split_calls s (w.alloc (.cells #[.int .i64 0, .int .i64 0, .slice none 0 0, .string ⟨#[]⟩, .string ⟨#[]⟩] 57)) hs
  obtain ⟨ok, p1, p2, p3, p4, p5, l1, l2, l3, l4, l5, hv, hok, hpr⟩ : ∃ ok p1 p2 p3 p4 p5, p1.length ≤ 1099511627776 ∧ p2.length ≤ 1099511627776 ∧ p3.length ≤ 1099511627776 ∧ p4.length ≤ 1099511627776 ∧ p5.length ≤ 1099511627776 ∧
      partsV (splitR s) = .agg #[.string ⟨p1.toArray⟩, .string ⟨p2.toArray⟩, .string ⟨p3.toArray⟩, .string ⟨p4.toArray⟩, .string ⟨p5.toArray⟩] ∧ (splitR s).isSome = ok ∧ parseR s = parseP ok p1 p2 p3 p4 p5 := by
    unfold parseR
    cases h : splitR s with
    | none => exact ⟨false, [], [], [], [], [], by simp, by simp, by simp, by simp, by simp, rfl, rfl, rfl⟩
    | some p =>
      obtain ⟨a1, a2, a3, a4, a5⟩ := splitR_length h
      exact ⟨true, p.site, p.seq, p.dep, p.key, p.val, by omega, by omega, by omega, by omega, by omega, rfl, rfl, rfl⟩
  rw [hv, hok] at u1
  rw [hpr]
  have U1 := hide u1
  clear u1 hv hok hpr hs
  obtain ⟨P, hP⟩ : ∃ P, parseP ok p1 p2 p3 p4 p5 = P := ⟨_, rfl⟩
  rw [hP]
  unfold parseP at hP
  have u2 := hide (fun w => numParse_calls ⟨p1.toArray⟩ w (by simpa [ByteArray.size] using l1))
  have u3 := hide (fun w => numParse_calls ⟨p2.toArray⟩ w (by simpa [ByteArray.size] using l2))
  have u4 := hide (fun w => parseO_calls ⟨p3.toArray⟩ w (by simpa [ByteArray.size] using l3))
  rw [show (⟨p1.toArray⟩ : ByteArray).data.toList = p1 from rfl] at u2
  rw [show (⟨p2.toArray⟩ : ByteArray).data.toList = p2 from rfl] at u3
  rw [show (⟨p3.toArray⟩ : ByteArray).data.toList = p3 from rfl] at u4
  generalize numL p1 = n1 at *
  generalize numL p2 = n2 at *
  have hdl := parseL_len p3
  generalize parseL p3 = n3 at *
  obtain ⟨site, b1⟩ := n1
  obtain ⟨seq, b2⟩ := n2
  obtain ⟨dep, e3⟩ := n3
  dsimp only at *
  have HP := hide hP
  clear hP
  have z0 : (w.alloc (.cells #[.int .i64 0, .int .i64 0, .slice none 0 0, .string ⟨#[]⟩, .string ⟨#[]⟩] 57)).heap[w.heap.size]? = some (.cells #[.int .i64 0, .int .i64 0, .slice none 0 0, .string ⟨#[]⟩, .string ⟨#[]⟩] 57 (0, 0)) := World.alloc_heap_new w _
  have HB0 := box_below w (.cells #[.int .i64 0, .int .i64 0, .slice none 0 0, .string ⟨#[]⟩, .string ⟨#[]⟩] 57)
  generalize hW0 : w.alloc (.cells #[.int .i64 0, .int .i64 0, .slice none 0 0, .string ⟨#[]⟩, .string ⟨#[]⟩] 57) = W0 at *
  have HW := hide hW0
  clear hW0
  go_enter Tryz.func89, Tryz.ntmps89
  go_wp2_with fail
  rw [HW.out]
  refine U1.out.mono ?_
  rintro e w1 ⟨rfl, hB1⟩
  replace z0 := keepB z0 hB1
  have hB := HB0.trans (hB1.mono HB0.size)
  clear U1 HW HB0 hB1
  have d0 := cell_at z0 0
  have d1 := cell_at z0 1
  have d2 := cell_at z0 2
  have d3 := cell_at z0 3
  have d4 := cell_at z0 4
  simp only [List.getElem?_toArray, List.getElem?_cons_zero, List.getElem?_cons_succ] at d0 d1 d2 d3 d4
  have g0 := frozen_at z0 0
  have g1 := frozen_at z0 1
  have g2 := frozen_at z0 2
  have g3 := frozen_at z0 3
  have g4 := frozen_at z0 4
  have zlt := ltB z0
  have Z0 := hide z0
  clear z0
  cases ok with
  | false =>
    have e := HP.out
    rw [if_neg (by simp)] at e
    subst e
    clear HP
    go_wp2_with (first | (go_at_call_of 88 (Value.string ⟨p1.toArray⟩); refine (u2.out _).mono ?_; rintro e w' ⟨rfl, rfl⟩) | (go_at_call_of 88 (Value.string ⟨p2.toArray⟩); refine (u3.out _).mono ?_; rintro e w' ⟨rfl, rfl⟩))
    obtain ⟨W', hW', k0, k1, k2, k3, k4, hB'⟩ := parse_zero Z0.out hB (Nat.le_refl _)
    unfold put5 at hW'
    rw [hW']
    have k0 := Lib.cell?_alloc_some (.cells #[.string ⟨p1.toArray⟩, .string ⟨p2.toArray⟩, .string ⟨p3.toArray⟩, .string ⟨p4.toArray⟩, .string ⟨p5.toArray⟩] 144) k0
    have k1 := Lib.cell?_alloc_some (.cells #[.string ⟨p1.toArray⟩, .string ⟨p2.toArray⟩, .string ⟨p3.toArray⟩, .string ⟨p4.toArray⟩, .string ⟨p5.toArray⟩] 144) k1
    have k2 := Lib.cell?_alloc_some (.cells #[.string ⟨p1.toArray⟩, .string ⟨p2.toArray⟩, .string ⟨p3.toArray⟩, .string ⟨p4.toArray⟩, .string ⟨p5.toArray⟩] 144) k2
    have k3 := Lib.cell?_alloc_some (.cells #[.string ⟨p1.toArray⟩, .string ⟨p2.toArray⟩, .string ⟨p3.toArray⟩, .string ⟨p4.toArray⟩, .string ⟨p5.toArray⟩] 144) k3
    have k4 := Lib.cell?_alloc_some (.cells #[.string ⟨p1.toArray⟩, .string ⟨p2.toArray⟩, .string ⟨p3.toArray⟩, .string ⟨p4.toArray⟩, .string ⟨p5.toArray⟩] 144) k4
    exact bodyPost_ret (v := .tuple #[.agg #[.int .i64 0, .int .i64 0, .slice none 0 0, .string ⟨#[]⟩, .string ⟨#[]⟩], .int .i64 2]) (by simp [results, Tryz.f89, go_sem, k0, k1, k2, k3, k4]) rfl ⟨_, rfl, zero_own _ _, hB'.alloc hB'.size _⟩
  | true =>
    cases b1 with
    | false =>
      have e := HP.out
      rw [if_neg (by simp)] at e
      subst e
      clear HP
      go_wp2_with (first | (go_at_call_of 88 (Value.string ⟨p1.toArray⟩); refine (u2.out _).mono ?_; rintro e w' ⟨rfl, rfl⟩) | (go_at_call_of 88 (Value.string ⟨p2.toArray⟩); refine (u3.out _).mono ?_; rintro e w' ⟨rfl, rfl⟩))
      obtain ⟨W', hW', k0, k1, k2, k3, k4, hB'⟩ := parse_zero Z0.out hB (Nat.le_refl _)
      unfold put5 at hW'
      rw [hW']
      have k0 := Lib.cell?_alloc_some (.cells #[.string ⟨p1.toArray⟩, .string ⟨p2.toArray⟩, .string ⟨p3.toArray⟩, .string ⟨p4.toArray⟩, .string ⟨p5.toArray⟩] 144) k0
      have k1 := Lib.cell?_alloc_some (.cells #[.string ⟨p1.toArray⟩, .string ⟨p2.toArray⟩, .string ⟨p3.toArray⟩, .string ⟨p4.toArray⟩, .string ⟨p5.toArray⟩] 144) k1
      have k2 := Lib.cell?_alloc_some (.cells #[.string ⟨p1.toArray⟩, .string ⟨p2.toArray⟩, .string ⟨p3.toArray⟩, .string ⟨p4.toArray⟩, .string ⟨p5.toArray⟩] 144) k2
      have k3 := Lib.cell?_alloc_some (.cells #[.string ⟨p1.toArray⟩, .string ⟨p2.toArray⟩, .string ⟨p3.toArray⟩, .string ⟨p4.toArray⟩, .string ⟨p5.toArray⟩] 144) k3
      have k4 := Lib.cell?_alloc_some (.cells #[.string ⟨p1.toArray⟩, .string ⟨p2.toArray⟩, .string ⟨p3.toArray⟩, .string ⟨p4.toArray⟩, .string ⟨p5.toArray⟩] 144) k4
      exact bodyPost_ret (v := .tuple #[.agg #[.int .i64 0, .int .i64 0, .slice none 0 0, .string ⟨#[]⟩, .string ⟨#[]⟩], .int .i64 2]) (by simp [results, Tryz.f89, go_sem, k0, k1, k2, k3, k4]) rfl ⟨_, rfl, zero_own _ _, hB'.alloc hB'.size _⟩
    | true =>
      cases b2 with
      | false =>
        have e := HP.out
        rw [if_neg (by simp)] at e
        subst e
        clear HP
        go_wp2_with (first | (go_at_call_of 88 (Value.string ⟨p1.toArray⟩); refine (u2.out _).mono ?_; rintro e w' ⟨rfl, rfl⟩) | (go_at_call_of 88 (Value.string ⟨p2.toArray⟩); refine (u3.out _).mono ?_; rintro e w' ⟨rfl, rfl⟩))
        obtain ⟨W', hW', k0, k1, k2, k3, k4, hB'⟩ := parse_zero Z0.out hB (Nat.le_refl _)
        unfold put5 at hW'
        rw [hW']
        have k0 := Lib.cell?_alloc_some (.cells #[.string ⟨p1.toArray⟩, .string ⟨p2.toArray⟩, .string ⟨p3.toArray⟩, .string ⟨p4.toArray⟩, .string ⟨p5.toArray⟩] 144) k0
        have k1 := Lib.cell?_alloc_some (.cells #[.string ⟨p1.toArray⟩, .string ⟨p2.toArray⟩, .string ⟨p3.toArray⟩, .string ⟨p4.toArray⟩, .string ⟨p5.toArray⟩] 144) k1
        have k2 := Lib.cell?_alloc_some (.cells #[.string ⟨p1.toArray⟩, .string ⟨p2.toArray⟩, .string ⟨p3.toArray⟩, .string ⟨p4.toArray⟩, .string ⟨p5.toArray⟩] 144) k2
        have k3 := Lib.cell?_alloc_some (.cells #[.string ⟨p1.toArray⟩, .string ⟨p2.toArray⟩, .string ⟨p3.toArray⟩, .string ⟨p4.toArray⟩, .string ⟨p5.toArray⟩] 144) k3
        have k4 := Lib.cell?_alloc_some (.cells #[.string ⟨p1.toArray⟩, .string ⟨p2.toArray⟩, .string ⟨p3.toArray⟩, .string ⟨p4.toArray⟩, .string ⟨p5.toArray⟩] 144) k4
        exact bodyPost_ret (v := .tuple #[.agg #[.int .i64 0, .int .i64 0, .slice none 0 0, .string ⟨#[]⟩, .string ⟨#[]⟩], .int .i64 2]) (by simp [results, Tryz.f89, go_sem, k0, k1, k2, k3, k4]) rfl ⟨_, rfl, zero_own _ _, hB'.alloc hB'.size _⟩
      | true =>
        have e := HP.out
        rw [if_pos ⟨rfl, rfl, rfl⟩] at e
        clear HP
        replace e := hide e
        go_wp2_with (first | (go_at_call_of 88 (Value.string ⟨p1.toArray⟩); refine (u2.out _).mono ?_; rintro e w' ⟨rfl, rfl⟩) | (go_at_call_of 88 (Value.string ⟨p2.toArray⟩); refine (u3.out _).mono ?_; rintro e w' ⟨rfl, rfl⟩))
        have y0 : (w1.alloc (.cells #[.string ⟨p1.toArray⟩, .string ⟨p2.toArray⟩, .string ⟨p3.toArray⟩, .string ⟨p4.toArray⟩, .string ⟨p5.toArray⟩] 144)).heap[w1.heap.size]? = some (.cells #[.string ⟨p1.toArray⟩, .string ⟨p2.toArray⟩, .string ⟨p3.toArray⟩, .string ⟨p4.toArray⟩, .string ⟨p5.toArray⟩] 144 (0, 0)) := World.alloc_heap_new w1 _
        have z0 := keepB Z0.out (box_below w1 (.cells #[.string ⟨p1.toArray⟩, .string ⟨p2.toArray⟩, .string ⟨p3.toArray⟩, .string ⟨p4.toArray⟩, .string ⟨p5.toArray⟩] 144))
        have hB2 := hB.alloc hB.size (.cells #[.string ⟨p1.toArray⟩, .string ⟨p2.toArray⟩, .string ⟨p3.toArray⟩, .string ⟨p4.toArray⟩, .string ⟨p5.toArray⟩] 144)
        clear Z0 hB d0 d1 d2 d3 d4 g0 g1 g2 g3 g4
        generalize w1.alloc (.cells #[.string ⟨p1.toArray⟩, .string ⟨p2.toArray⟩, .string ⟨p3.toArray⟩, .string ⟨p4.toArray⟩, .string ⟨p5.toArray⟩] 144) = W2 at *
        refine (u4.out _).mono ?_
        rintro e w3 ⟨v, rfl, hn, hB3⟩
        obtain ⟨a, cap, rfl⟩ := ownsRow_slice hn
        have hnew : ∀ k, (Value.slice a dep.length cap).ownBlock = some k → w.heap.size < k ∧ k < w3.heap.size := fun k hk => ⟨by have := (hn.lt k hk).1; have := ltB z0; omega, (hn.lt k hk).2⟩
        have hw2 := ltB z0
        have hw3 := hB3.size
        replace y0 := keepB y0 hB3
        replace z0 := keepB z0 hB3
        have hB := hB2.trans (hB3.mono hB2.size)
        clear u2 u3 u4 hB2 hB3
        have d0 := cell_at z0 0
        have d1 := cell_at z0 1
        have d2 := cell_at z0 2
        have d3 := cell_at z0 3
        have d4 := cell_at z0 4
        simp only [List.getElem?_toArray, List.getElem?_cons_zero, List.getElem?_cons_succ] at d0 d1 d2 d3 d4
        have g0 := frozen_at z0 0
        have g1 := frozen_at z0 1
        have g2 := frozen_at z0 2
        have g3 := frozen_at z0 3
        have g4 := frozen_at z0 4
        have c0 := cell_at y0 0
        have c1 := cell_at y0 1
        have c2 := cell_at y0 2
        have c3 := cell_at y0 3
        have c4 := cell_at y0 4
        simp only [List.getElem?_toArray, List.getElem?_cons_zero, List.getElem?_cons_succ] at c0 c1 c2 c3 c4
        have zlt := ltB z0
        have ylt := ltB y0
        have Z0 := hide z0
        have Y0 := hide y0
        have Hn := hide hn
        clear z0 y0 hn
        by_cases he3 : e3 = 0
        case neg =>
          have e1 := e.out
          rw [if_neg he3] at e1
          subst e1
          clear e
          have he3' : (e3 != 0) = true := by simp [he3]
          clear he3
          go_wp2
          obtain ⟨W', hW', k0, k1, k2, k3, k4, hB'⟩ := parse_zero Z0.out hB (Nat.le_refl _)
          unfold put5 at hW'
          rw [hW']
          exact bodyPost_ret (v := .tuple #[.agg #[.int .i64 0, .int .i64 0, .slice none 0 0, .string ⟨#[]⟩, .string ⟨#[]⟩], .int .i64 e3]) (by simp [results, Tryz.f89, go_sem, k0, k1, k2, k3, k4]) rfl ⟨_, rfl, zero_own _ _, hB'⟩
        have e1 := e.out
        rw [if_pos he3] at e1
        subst he3
        clear e
        obtain ⟨c, hc⟩ : ∃ c, checkR ⟨site, seq, dep, ⟨p4.toArray⟩, ⟨p5.toArray⟩⟩ 8 = c := ⟨_, rfl⟩
        rw [hc] at e1
        have e2 := hide e1
        have Hc := hide hc
        clear e1 hc

        go_wp2_with fail
        have x0 : (w3.alloc (.cells #[.int .i64 site, .int .i64 seq, .slice a dep.length cap, .string ⟨p4.toArray⟩, .string ⟨p5.toArray⟩] 57)).heap[w3.heap.size]? = some (.cells #[.int .i64 site, .int .i64 seq, .slice a dep.length cap, .string ⟨p4.toArray⟩, .string ⟨p5.toArray⟩] 57 (0, 0)) := World.alloc_heap_new w3 _
        have z0 := keepB Z0.out (box_below w3 (.cells #[.int .i64 site, .int .i64 seq, .slice a dep.length cap, .string ⟨p4.toArray⟩, .string ⟨p5.toArray⟩] 57))
        have y0 := keepB Y0.out (box_below w3 (.cells #[.int .i64 site, .int .i64 seq, .slice a dep.length cap, .string ⟨p4.toArray⟩, .string ⟨p5.toArray⟩] 57))
        have hn := own_below Hn.out (box_below w3 (.cells #[.int .i64 site, .int .i64 seq, .slice a dep.length cap, .string ⟨p4.toArray⟩, .string ⟨p5.toArray⟩] 57))
        have hB2 := hB.alloc hB.size (.cells #[.int .i64 site, .int .i64 seq, .slice a dep.length cap, .string ⟨p4.toArray⟩, .string ⟨p5.toArray⟩] 57)
        clear Z0 Y0 Hn hB d0 d1 d2 d3 d4 g0 g1 g2 g3 g4 c0 c1 c2 c3 c4
        generalize w3.alloc (.cells #[.int .i64 site, .int .i64 seq, .slice a dep.length cap, .string ⟨p4.toArray⟩, .string ⟨p5.toArray⟩] 57) = W4 at *
        have hck := recCheck_calls _ ⟨site, seq, dep, ⟨p4.toArray⟩, ⟨p5.toArray⟩⟩ 8 W4 ⟨a, cap, rfl, IsNums.of_row hn⟩ (by dsimp only; omega) (by simpa [ByteArray.size] using l4) (by simpa [ByteArray.size] using l5)
        rw [Hc.out] at hck
        refine hck.mono ?_
        rintro e w5 ⟨rfl, hB5⟩
        replace x0 := keepB x0 hB5
        replace y0 := keepB y0 hB5
        replace z0 := keepB z0 hB5
        replace hn := own_below hn hB5
        have hB := hB2.trans (hB5.mono hB2.size)
        have xlt := ltB x0
        clear hck hB2 hB5
        have d0 := cell_at z0 0
        have d1 := cell_at z0 1
        have d2 := cell_at z0 2
        have d3 := cell_at z0 3
        have d4 := cell_at z0 4
        simp only [List.getElem?_toArray, List.getElem?_cons_zero, List.getElem?_cons_succ] at d0 d1 d2 d3 d4
        have g0 := frozen_at z0 0
        have g1 := frozen_at z0 1
        have g2 := frozen_at z0 2
        have g3 := frozen_at z0 3
        have g4 := frozen_at z0 4
        have c0 := cell_at y0 0
        have c1 := cell_at y0 1
        have c2 := cell_at y0 2
        have c3 := cell_at y0 3
        have c4 := cell_at y0 4
        simp only [List.getElem?_toArray, List.getElem?_cons_zero, List.getElem?_cons_succ] at c0 c1 c2 c3 c4
        have m0 := cell_at x0 0
        have m1 := cell_at x0 1
        have m2 := cell_at x0 2
        have m3 := cell_at x0 3
        have m4 := cell_at x0 4
        simp only [List.getElem?_toArray, List.getElem?_cons_zero, List.getElem?_cons_succ] at m0 m1 m2 m3 m4
        have f0 := frozen_at x0 0
        have f1 := frozen_at x0 1
        have f2 := frozen_at x0 2
        have f3 := frozen_at x0 3
        have f4 := frozen_at x0 4
        have Z0 := hide z0
        have Y0 := hide y0
        have X0 := hide x0
        have Hn := hide hn
        clear z0 y0 x0 hn
        by_cases hc0 : c = 0
        case neg =>
          have e1 := e2.out
          rw [if_neg hc0] at e1
          subst e1
          clear e2
          have hc' : (c != 0) = true := by simp [hc0]
          clear hc0
          go_wp2
          obtain ⟨W', hW', k0, k1, k2, k3, k4, hB'⟩ := parse_zero Z0.out hB (Nat.le_refl _)
          unfold put5 at hW'
          rw [hW']
          exact bodyPost_ret (v := .tuple #[.agg #[.int .i64 0, .int .i64 0, .slice none 0 0, .string ⟨#[]⟩, .string ⟨#[]⟩], .int .i64 c]) (by simp [results, Tryz.f89, go_sem, k0, k1, k2, k3, k4]) rfl ⟨_, rfl, zero_own _ _, hB'⟩
        have e1 := e2.out
        rw [if_pos hc0] at e1
        subst hc0
        subst e1
        clear e2 Hc
        go_wp2_with fail
        replace X0 := hide (show w5.drew.heap[w3.heap.size]? = _ from X0.out)
        replace Y0 := hide (show w5.drew.heap[w1.heap.size]? = _ from Y0.out)
        replace Z0 := hide (show w5.drew.heap[w.heap.size]? = _ from Z0.out)
        replace Hn := hide (own_below Hn.out (Below.refl _ w5).drew)
        replace hB := hB.drew
        have q4 := hide (fun w => clone_calls ⟨p4.toArray⟩ w (by simpa [ByteArray.size] using l4))
        have q5 := hide (fun w => clone_calls ⟨p5.toArray⟩ w (by simpa [ByteArray.size] using l5))
        go_region_with (first | (go_at_call_of 35 (Value.string ⟨p4.toArray⟩); refine (q4.out _).mono ?_; rintro e w' ⟨rfl, hb⟩; replace X0 := hide (keepB X0.out hb); replace Y0 := hide (keepB Y0.out hb); replace Z0 := hide (keepB Z0.out hb); replace Hn := hide (own_below Hn.out hb); replace hB := hB.trans (hb.mono hB.size); have c3 := cell_at Y0.out 3; have c4 := cell_at Y0.out 4; have m3 := cell_at X0.out 3; have m4 := cell_at X0.out 4; simp only [List.getElem?_toArray, List.getElem?_cons_zero, List.getElem?_cons_succ] at c3 c4 m3 m4; have f3 := frozen_at X0.out 3; have f4 := frozen_at X0.out 4) | (go_at_call_of 35 (Value.string ⟨p5.toArray⟩); refine (q5.out _).mono ?_; rintro e w' ⟨rfl, hb⟩; replace X0 := hide (keepB X0.out hb); replace Y0 := hide (keepB Y0.out hb); replace Z0 := hide (keepB Z0.out hb); replace Hn := hide (own_below Hn.out hb); replace hB := hB.trans (hb.mono hB.size); have c3 := cell_at Y0.out 3; have c4 := cell_at Y0.out 4; have m3 := cell_at X0.out 3; have m4 := cell_at X0.out 4; simp only [List.getElem?_toArray, List.getElem?_cons_zero, List.getElem?_cons_succ] at c3 c4 m3 m4; have f3 := frozen_at X0.out 3; have f4 := frozen_at X0.out 4))
        all_goals
          have m0 := cell_at X0.out 0
          have m1 := cell_at X0.out 1
          have m2 := cell_at X0.out 2
          have m3 := cell_at X0.out 3
          have m4 := cell_at X0.out 4
          have d0 := cell_at Z0.out 0
          have d1 := cell_at Z0.out 1
          have d2 := cell_at Z0.out 2
          have d3 := cell_at Z0.out 3
          have d4 := cell_at Z0.out 4
          simp only [List.getElem?_toArray, List.getElem?_cons_zero, List.getElem?_cons_succ] at m0 m1 m2 m3 m4 d0 d1 d2 d3 d4
          have g0 := frozen_at Z0.out 0
          have g1 := frozen_at Z0.out 1
          have g2 := frozen_at Z0.out 2
          have g3 := frozen_at Z0.out 3
          have g4 := frozen_at Z0.out 4
          go_wp2
          have y1 := (Below.heap_setCell (w'.setCell ⟨w3.heap.size, 3, none⟩ (.string ⟨p4.toArray⟩)) ⟨w3.heap.size, 4, none⟩ (.string ⟨p5.toArray⟩) w.heap.size (by simp; omega)).trans ((Below.heap_setCell w' ⟨w3.heap.size, 3, none⟩ (.string ⟨p4.toArray⟩) w.heap.size (by simp; omega)).trans Z0.out)
          have hB1 := (hB.setCell (p := ⟨w3.heap.size, 3, none⟩) (by simp; omega) (.string ⟨p4.toArray⟩)).setCell (p := ⟨w3.heap.size, 4, none⟩) (by simp; omega) (.string ⟨p5.toArray⟩)
          have ho1 : ∀ k, k ≠ w3.heap.size → k ≠ w.heap.size → (put5 ((w'.setCell ⟨w3.heap.size, 3, none⟩ (.string ⟨p4.toArray⟩)).setCell ⟨w3.heap.size, 4, none⟩ (.string ⟨p5.toArray⟩)) w.heap.size (.int .i64 site) (.int .i64 seq) (.slice a dep.length cap) (.string ⟨p4.toArray⟩) (.string ⟨p5.toArray⟩)).heap[k]? = w'.heap[k]? := fun k h1 h2 => by
            rw [put5_other k h2, Below.heap_setCell _ ⟨w3.heap.size, 4, none⟩ _ k h1, Below.heap_setCell _ ⟨w3.heap.size, 3, none⟩ _ k h1]
          have e1 := put5_heap y1 (.int .i64 site) (.int .i64 seq) (.slice a dep.length cap) (.string ⟨p4.toArray⟩) (.string ⟨p5.toArray⟩)
          have hB2 := put5_below hB1 (Nat.le_refl _) (.int .i64 site) (.int .i64 seq) (.slice a dep.length cap) (.string ⟨p4.toArray⟩) (.string ⟨p5.toArray⟩)
          obtain ⟨W9, hW9⟩ : ∃ W9, put5 ((w'.setCell ⟨w3.heap.size, 3, none⟩ (.string ⟨p4.toArray⟩)).setCell ⟨w3.heap.size, 4, none⟩ (.string ⟨p5.toArray⟩)) w.heap.size (.int .i64 site) (.int .i64 seq) (.slice a dep.length cap) (.string ⟨p4.toArray⟩) (.string ⟨p5.toArray⟩) = W9 := ⟨_, rfl⟩
          rw [hW9] at e1 hB2 ho1
          unfold put5 at hW9
          rw [hW9]
          clear hW9 m0 m1 m2 m3 m4 d0 d1 d2 d3 d4 g0 g1 g2 g3 g4 y1 hB1
          have k0 := cell_at e1 0
          have k1 := cell_at e1 1
          have k2 := cell_at e1 2
          have k3 := cell_at e1 3
          have k4 := cell_at e1 4
          simp only [List.getElem?_toArray, List.getElem?_cons_zero, List.getElem?_cons_succ] at k0 k1 k2 k3 k4
          refine bodyPost_ret (v := .tuple #[.agg #[.int .i64 site, .int .i64 seq, .slice a dep.length cap, .string ⟨p4.toArray⟩, .string ⟨p5.toArray⟩], .int .i64 0]) (by simp [results, Tryz.f89, go_sem, k0, k1, k2, k3, k4]) rfl ⟨_, rfl, ⟨_, rfl, ?_⟩, hB2⟩
          exact ownsRow_low (ownsRow_of_heap Hn.out fun k hk => by have h1 := hnew k hk; exact ho1 k (by omega) (by omega)) (by omega)

end Go.Proofs.YtncmocmmkbmmjaaGreatDoor

/- Plain laws: a record in words is read again as it was. Own work; no statement. -/
set_option linter.unusedSimpArgs false
set_option linter.unusedVariables false
namespace Go.Proofs.YtncmocmmkbmmjaaGreatDoor

theorem index_at : ∀ (a b : List UInt8) (x : UInt8), (∀ c ∈ a, c ≠ x) → Lib.indexByte (a ++ x :: b) x = a.length
  | [], b, x, _ => by simp [Lib.indexByte]
  | c :: a, b, x, h => by
    have ih := index_at a b x (fun d hd => h d (by simp [hd]))
    have hc : (c == x) = false := by simpa using h c (by simp)
    have hn : ¬ (a.length : Int) = -1 := by omega
    simp [Lib.indexByte, hc, ih, hn]

theorem cut_at (a b : List UInt8) (x : UInt8) (h : ∀ c ∈ a, c ≠ x) : cutL (a ++ x :: b) x = (a, b, true) := by
  unfold cutL
  rw [index_at a b x h, if_neg (by omega)]
  simp

theorem dig_ne {c x : UInt8} (h : digB c = true) (hx : x.toNat < 48 ∨ 57 < x.toNat) : c ≠ x := by
  intro e
  subst e
  simp only [digB, decide_eq_true_eq] at h
  omega

theorem decToM_val {m : Int} (hm : 0 ≤ m) : ∀ (l : List UInt8) (n : Int), (∀ c ∈ l, digB c = true) → 0 ≤ n → decToM m l (min n (m + 1)) = min (valTo l n) (m + 1)
  | [], n, _, _ => rfl
  | c :: l, n, h, h0 => by
    have hc := dig_range (h c (by simp))
    have ih := decToM_val hm l (10 * n + ((c.toNat : Int) - 48)) (fun d hd => h d (by simp [hd])) (by omega)
    simp only [decToM, valTo]
    rw [← ih]
    congr 1
    omega

theorem valTo_digits (u : Nat) : valTo (Lib.decDigits u) 0 = u := by
  induction u using Nat.strongRecOn with
  | _ u ih =>
    rw [Lib.decDigits]
    split
    · rename_i h
      simp only [valTo]
      rw [digit_val u h]
      omega
    · rename_i h
      rw [valTo_snoc, ih (u / 10) (by omega), digit_val (u % 10) (by omega)]
      omega

theorem numL_itoa {x : Int} (h0 : 0 ≤ x) (h1 : x ≤ 2147483647) : numL (Lib.itoa x) = (x, true) := by
  rw [itoa_nat x h0]
  have hv : decToM 2147483647 (Lib.decDigits x.toNat) 0 = x := by
    have := decToM_val (m := 2147483647) (by omega) (Lib.decDigits x.toNat) 0 (decDigits_all _) (Int.le_refl _)
    rw [show min (0 : Int) (2147483647 + 1) = 0 by omega, valTo_digits] at this
    rw [this]
    omega
  unfold numL
  rw [decOk_digits, hv, if_pos ⟨rfl, h1⟩]

theorem nums_no93 {l : List Int} (h : InS l) : ∀ k, ∀ c ∈ numsTo l k, c ≠ 93
  | 0 => by simp [numsTo]
  | k + 1 => by
    intro c hc
    simp only [numsTo, List.mem_append] at hc
    rcases hc with hc | hc | hc
    · exact nums_no93 h k c hc
    · split at hc
      · simp at hc
      · simp at hc
        subst hc
        decide
    · rw [itoa_nat _ (getD_inS h k).1] at hc
      exact dig_ne (decDigits_all _ c hc) (by decide)

theorem key_ne {l : List UInt8} (h : isKeyL l = true) : ∀ c ∈ l, c ≠ 61 := by
  intro c hc e
  subst e
  unfold isKeyL at h
  simp only [Bool.and_eq_true, List.all_eq_true] at h
  have := h.2 61 hc
  revert this
  decide

theorem itoa_ne {x : Int} (h : 0 ≤ x) {y : UInt8} (hy : y.toNat < 48 ∨ 57 < y.toNat) : ∀ c ∈ Lib.itoa x, c ≠ y := by
  intro c hc
  rw [itoa_nat x h] at hc
  exact dig_ne (decDigits_all _ c hc) hy

theorem textR_list (r : RecD) : (textR r).data.toList = Lib.itoa r.site ++ 58 :: (Lib.itoa r.seq ++ 32 :: (textL r.dep ++ 32 :: (r.key.data.toList ++ 61 :: r.val.data.toList))) := by
  unfold textR
  simp [ByteArray.data_append]

theorem split_text (r : RecD) (h0 : 0 ≤ r.site) (h1 : 0 ≤ r.seq) (hd : InS r.dep) (hk : isKeyL r.key.data.toList = true) :
    splitR (textR r).data.toList = some ⟨Lib.itoa r.site, Lib.itoa r.seq, textL r.dep, r.key.data.toList, r.val.data.toList⟩ := by
  rw [textR_list]
  unfold splitR
  rw [cut_at _ _ 58 (itoa_ne h0 (by decide))]
  dsimp only
  rw [cut_at _ _ 32 (itoa_ne h1 (by decide))]
  dsimp only
  have hix : Lib.indexByte (textL r.dep ++ 32 :: (r.key.data.toList ++ 61 :: r.val.data.toList)) 93 = (numsTo r.dep (writtenL r.dep)).length + 1 := by
    have := index_at (91 :: numsTo r.dep (writtenL r.dep)) (32 :: (r.key.data.toList ++ 61 :: r.val.data.toList)) 93 (by
      intro c hc
      rcases List.mem_cons.1 hc with rfl | hc
      · decide
      · exact nums_no93 hd _ c hc)
    unfold textL
    simpa using this
  rw [hix]
  have hlen : (textL r.dep).length = (numsTo r.dep (writtenL r.dep)).length + 2 := by simp [textL]
  have he : (((numsTo r.dep (writtenL r.dep)).length : Int) + 1 + 1).toNat = (textL r.dep).length := by rw [hlen]; omega
  rw [he, List.drop_left, List.take_left]
  have hp : Lib.hasPrefix (32 :: (r.key.data.toList ++ 61 :: r.val.data.toList)) [32] = true := by simp [Lib.hasPrefix, List.isPrefixOf]
  have ht : Lib.trimPrefix (32 :: (r.key.data.toList ++ 61 :: r.val.data.toList)) [32] = r.key.data.toList ++ 61 :: r.val.data.toList := by unfold Lib.trimPrefix; rw [hp]; simp
  rw [ht, hp, cut_at _ _ 61 (key_ne hk)]
  rw [if_pos ⟨rfl, rfl, by omega, rfl, rfl⟩]

theorem check_inS {l : List Int} {s : Int} (h : checkL l s = 0) : 1 ≤ s ∧ s ≤ 8 ∧ (l.length : Int) ≤ s ∧ InS l := by
  unfold checkL at h
  split at h
  · cases h
  · split at h
    · cases h
    · refine ⟨by omega, by omega, by omega, ?_⟩
      have : ∀ l : List Int, checkN l = 0 → InS l := by
        intro l
        induction l with
        | nil => intro _ x hx; simp at hx
        | cons n l ih =>
          intro h x hx
          simp only [checkN] at h
          split at h
          · cases h
          · split at h
            · cases h
            · rcases List.mem_cons.1 hx with rfl | hx
              · omega
              · exact ih h x hx
      exact this l h

theorem check_parts {r : RecD} {s : Int} (h : checkR r s = 0) : 1 ≤ s ∧ s ≤ 8 ∧ 0 ≤ r.site ∧ r.site < s ∧ 1 ≤ r.seq ∧ r.seq ≤ 1048576 ∧ (r.dep.length : Int) ≤ s ∧ InS r.dep ∧ geti r.dep r.site < r.seq ∧ isKeyL r.key.data.toList = true ∧ checkValL r.val.data.toList = 0 := by
  unfold checkR at h
  split at h
  · cases h
  · split at h
    · rename_i h1 h2
      split at h
      · cases h
      · split at h
        · rename_i h3 h4
          obtain ⟨a1, a2, a3, a4⟩ := check_inS h2
          exact ⟨by omega, by omega, by omega, by omega, by omega, by omega, a3, a4, by omega, h4, h⟩
        · cases h
    · rename_i h2
      exact absurd h h2

/-- What is read of a record's words. -/
def backR (r : RecD) : RecD := ⟨r.site, r.seq, r.dep.take (writtenL r.dep), r.key, r.val⟩

theorem geti_written (l : List Int) (i : Int) : geti (l.take (writtenL l)) i = geti l i := by
  have hs := same_written l
  rw [same_iff] at hs
  by_cases h : 0 ≤ i
  · obtain ⟨n, rfl⟩ := Int.eq_ofNat_of_zero_le h
    rw [geti_nat, geti_nat]
    exact (hs n).symm
  · unfold geti
    rw [if_pos (by omega), if_pos (by omega)]

theorem back_check {r : RecD} {s : Int} (h : checkR r s = 0) : checkR (backR r) 8 = 0 := by
  obtain ⟨a1, a2, a3, a4, a5, a6, a7, a8, a9, a10, a11⟩ := check_parts h
  unfold checkR backR
  dsimp only
  rw [if_neg (by omega), if_pos (check_ok _ (inS_take _ a8 _) (by rw [List.length_take]; omega)), geti_written, if_neg (by omega), if_pos a10]
  exact a11

theorem parse_textR {r : RecD} {s : Int} (h : checkR r s = 0) : parseR (textR r).data.toList = (backR r, 0) := by
  obtain ⟨a1, a2, a3, a4, a5, a6, a7, a8, a9, a10, a11⟩ := check_parts h
  have hb := back_check h
  unfold parseR
  rw [split_text r a3 (by omega) a8 a10]
  dsimp only
  unfold parseP
  rw [numL_itoa a3 (by omega), numL_itoa (by omega) (by omega), parse_text _ a8 (by omega)]
  dsimp only
  rw [if_pos ⟨rfl, rfl, rfl⟩, if_pos rfl]
  have e : (⟨r.site, r.seq, r.dep.take (writtenL r.dep), ⟨r.key.data.toList.toArray⟩, ⟨r.val.data.toList.toArray⟩⟩ : RecD) = backR r := by simp [backR]
  rw [e, hb, if_pos rfl]

theorem back_same (r : RecD) : sameR (backR r) r = true := by
  unfold sameR backR
  simp only [decide_true, Bool.true_and]
  have hs := same_written r.dep
  rw [same_iff] at hs ⊢
  exact fun i => (hs i).symm

end Go.Proofs.YtncmocmmkbmmjaaGreatDoor

/- The reference's Number at any text, and find. Own work; no statement. -/
set_option linter.unusedSimpArgs false
set_option linter.unusedVariables false
namespace Go.Proofs.YtncmocmmkbmmjaaGreatDoor
open Go.RowKit

theorem numL_val (l : List UInt8) : numL l = if decOk l = true ∧ valTo l 0 ≤ 2147483647 then (valTo l 0, true) else (0, false) := by
  unfold numL
  cases h : decOk l with
  | false => simp
  | true =>
    have hd := decToM_val (m := 2147483647) (by omega) l 0 (decOk_parts h).2.2 (Int.le_refl _)
    rw [show min (0 : Int) (2147483647 + 1) = 0 by omega] at hd
    rw [hd]
    by_cases hv : valTo l 0 ≤ 2147483647
    · rw [if_pos ⟨rfl, by omega⟩, if_pos ⟨rfl, hv⟩, show min (valTo l 0) (2147483647 + 1) = valTo l 0 by omega]
    · rw [if_neg (by omega), if_neg (by omega)]

theorem numL_bad {l : List UInt8} (h : decOk l = false) : numL l = (0, false) := by
  rw [numL_val, h]
  simp

set_option maxRecDepth 20000 in
set_option maxHeartbeats 2000000 in
theorem refNumberAny_calls (s : ByteArray) (w : World) (hs : s.size ≤ 1099511627776) :
    Calls Tryz.prog 69 #[.string s] w fun e w' => e = .returned (.tuple #[.int .i64 (numL s.data.toList).1, .bool (numL s.data.toList).2]) ∧ w' = w := by
  cases hok : decOk s.data.toList with
  | true =>
    have h := refNumber_calls s w hs hok
    have e : (numV s.data.toList, numB s.data.toList) = numL s.data.toList := by
      rw [numL_val, hok]
      unfold numV numB
      by_cases hv : valTo s.data.toList 0 ≤ 2147483647
      · rw [if_pos hv, if_pos ⟨rfl, hv⟩, decide_eq_true hv]
      · rw [if_neg hv, if_neg (by omega), decide_eq_false hv]
    rw [← e]
    exact h
  | false =>
    rw [numL_bad hok]
    dsimp only
    by_cases h0 : s.size = 0
    · have e : s = ⟨#[]⟩ := ByteArray.ext (Array.eq_empty_of_size_eq_zero h0)
      subst e
      clear hok
      go_enter Tryz.func69, Tryz.ntmps69
      go_wp2_with fail
      go_ret2
      exact ⟨rfl, rfl⟩
    · have h0' : 0 < s.size := by omega
      have hne := not_empty h0'
      have h0I : (0 : Int) < (s.size : Int) := by omega
      by_cases h48 : (((s[0].toNat : Nat) : Int) == 48) = true
      · by_cases h1 : (1 : Int) < (s.size : Int)
        · clear hok h0
          go_enter Tryz.func69, Tryz.ntmps69
          go_wp2_with fail
          go_ret2
          exact ⟨rfl, rfl⟩
        · exfalso
          have e0 : s[0] = 48 := UInt8.toNat_inj.1 (by simp at h48; simp; omega)
          have hl : s.data.toList = [48] := by
            have hlen : s.data.toList.length = 1 := by rw [← Lib.size_eq]; omega
            match hh : s.data.toList, hlen with
            | [x], _ =>
              have : s[0] = s.data.toList[0]'(by rw [hh]; simp) := rfl
              rw [e0] at this
              simp [hh] at this
              rw [this]
          rw [hl] at hok
          revert hok
          decide
      · have h48' : (((s[0].toNat : Nat) : Int) == 48) = false := by simpa using h48
        have hnz : ¬ (1 < s.size ∧ s[0] = 48) := fun h => by rw [h.2] at h48; exact h48 rfl
        have Hnz := hide hnz
        have Hok := hide hok
        clear h48 hnz hok h0
        go_enter Tryz.func69, Tryz.ntmps69
        go_wp2_with fail
        go_loop [4, 5] (fun x i => ∃ k : Nat, k ≤ s.size ∧ i = .int .i64 (k : Int) ∧ x = .int .i64 (valTo (s.data.toList.take k) 0) ∧ valTo (s.data.toList.take k) 0 ≤ 2147483647 ∧ ∀ c ∈ s.data.toList.take k, digB c = true) (fun _ i => s.size - (intOf i).toNat)
        case atStart => exact ⟨0, Nat.zero_le _, rfl, rfl, by simp [valTo], by simp⟩
        case round =>
          obtain ⟨k, hk, rfl, rfl, hle, hall⟩ := hrel
          have hge := valTo_ge _ 0 hall (Int.le_refl _)
          replace hall := hide hall
          by_cases hkl : k < s.size
          · have hlt : (k : Int) < (s.size : Int) := by omega
            have hsn := valTo_snoc (s.data.toList.take k) s[k] 0
            rw [← take_snoc_byte s k hkl] at hsn
            replace hsn := hide hsn
            generalize valTo (s.data.toList.take k) 0 = x at *
            cases hd : digB s[k] with
            | true =>
              have hall2 := hide (all_snoc s k hkl hall.out hd)
              have hd' := dig_range hd
              have hd3 : ¬ ((s[k].toNat : Nat) : Int) < 48 := by omega
              have hd4 : ¬ 57 < ((s[k].toNat : Nat) : Int) := by omega
              clear hd
              obtain ⟨hda, hdb⟩ := hd'
              by_cases hbig : 2147483647 < 10 * x + ((s[k].toNat : Int) - 48)
              · go_wp2_with fail
                go_ret2
                exact ⟨rfl, rfl⟩
              · go_wp2_with fail
                exact ⟨⟨k + 1, by omega, by go_num, by rw [hsn.out], by rw [hsn.out]; omega, hall2.out⟩, by simp [intOf]; omega⟩
            | false =>
              unfold digB at hd
              simp only [decide_eq_false_iff_not] at hd
              by_cases hd1 : ((s[k].toNat : Nat) : Int) < 48
              · clear hd
                go_wp2_with fail
                go_ret2
                exact ⟨rfl, rfl⟩
              · have hd2 : 57 < ((s[k].toNat : Nat) : Int) := by omega
                clear hd
                go_wp2_with fail
                go_ret2
                exact ⟨rfl, rfl⟩
          · exfalso
            have e : s.data.toList.take k = s.data.toList := List.take_of_length_le (by rw [← Lib.size_eq]; omega)
            have := decOk_yes s h0' Hnz.out (by have := hall.out; rwa [e] at this)
            rw [Hok.out] at this
            cases this

/-- Where a byte stands first, from a place on. -/
def findL (l : List UInt8) (c : UInt8) (i : Nat) : Int := if Lib.indexByte (l.drop i) c = -1 then -1 else i + Lib.indexByte (l.drop i) c

theorem index_none : ∀ (l : List UInt8) (c : UInt8), (∀ x ∈ l, x ≠ c) → Lib.indexByte l c = -1
  | [], _, _ => rfl
  | x :: l, c, h => by
    have hx : (x == c) = false := by simpa using h x (by simp)
    simp [Lib.indexByte, hx, index_none l c (fun y hy => h y (by simp [hy]))]

theorem find_hit (s : ByteArray) (c : UInt8) (i k : Nat) (hi : i ≤ k) (hk : k < s.size) (h : ∀ j (hj : j < s.size), i ≤ j → j < k → s[j] ≠ c) (hc : s[k] = c) : findL s.data.toList c i = k := by
  have hl : k < s.data.toList.length := by rw [← Lib.size_eq]; exact hk
  have e : s.data.toList.drop i = ((s.data.toList.drop i).take (k - i)) ++ c :: s.data.toList.drop (k + 1) := by
    have h1 : s.data.toList.drop k = c :: s.data.toList.drop (k + 1) := by
      rw [List.drop_eq_getElem_cons hl]
      congr 1
    rw [← h1]
    conv => lhs; rw [← List.take_append_drop (k - i) (s.data.toList.drop i)]
    rw [List.drop_drop, show i + (k - i) = k by omega]
  have hlen : ((s.data.toList.drop i).take (k - i)).length = k - i := by simp; omega
  have := index_at ((s.data.toList.drop i).take (k - i)) (s.data.toList.drop (k + 1)) c (by
    intro x hx
    obtain ⟨j, hj, rfl⟩ := List.mem_iff_getElem.1 hx
    rw [hlen] at hj
    have := h (i + j) (by omega) (by omega) (by omega)
    simp
    exact this)
  rw [← e, hlen] at this
  unfold findL
  rw [this, if_neg (by omega)]
  omega

theorem find_miss (s : ByteArray) (c : UInt8) (i : Nat) (h : ∀ j (hj : j < s.size), i ≤ j → s[j] ≠ c) : findL s.data.toList c i = -1 := by
  unfold findL
  rw [if_pos]
  apply index_none
  intro x hx
  obtain ⟨j, hj, rfl⟩ := List.mem_iff_getElem.1 hx
  have hj' : i + j < s.size := by rw [Lib.size_eq]; simp at hj; simp; omega
  have := h (i + j) hj' (by omega)
  simp
  exact this

set_option maxHeartbeats 1000000 in
theorem refFind_calls (s : ByteArray) (c : UInt8) (i : Nat) (w : World) (hs : s.size ≤ 1099511627776) (hi : i ≤ 1099511627776) :
    Calls Tryz.prog 36 #[.string s, .int .u8 (c.toNat : Int), .int .i64 (i : Int)] w fun e w' => e = .returned (.int .i64 (findL s.data.toList c i)) ∧ w' = w := by
  obtain ⟨r, hr⟩ : ∃ r, findL s.data.toList c i = r := ⟨_, rfl⟩
  rw [hr]
  have Hr := hide hr
  clear hr
  go_enter Tryz.func36, Tryz.ntmps36
  go_wp2_with fail
  go_loop [7] (fun x => ∃ k : Nat, i ≤ k ∧ (k ≤ s.size ∨ k = i) ∧ x = .int .i64 (k : Int) ∧ ∀ j (hj : j < s.size), i ≤ j → j < k → s[j] ≠ c) (fun x => s.size - (intOf x).toNat)
  case atStart => exact ⟨i, Nat.le_refl _, .inr rfl, rfl, fun j _ h1 h2 => by omega⟩
  case round =>
    obtain ⟨k, hik, hks, rfl, hall⟩ := hrel
    replace hall := hide hall
    by_cases hkl : k < s.size
    · have hlt : (k : Int) < (s.size : Int) := by omega
      by_cases hc : s[k] = c
      · have e : r = k := by rw [← Hr.out]; exact find_hit s c i k hik hkl hall.out hc
        subst e
        have hc' : (((s[k].toNat : Nat) : Int) == ((c.toNat : Nat) : Int)) = true := by rw [hc]; simp
        clear hc hks
        go_wp2_with fail
        go_ret
        exact ⟨rfl, rfl⟩
      · have hc' : (((s[k].toNat : Nat) : Int) == ((c.toNat : Nat) : Int)) = false := by
          rw [beq_eq_false_iff_ne]
          intro e
          exact hc (UInt8.toNat_inj.1 (by omega))
        replace hc := hide hc
        clear hks
        go_wp2_with fail
        refine ⟨⟨k + 1, by omega, .inl (by omega), by go_num, fun j hj h1 h2 => ?_⟩, by simp [intOf]; omega⟩
        by_cases e : j = k
        · subst e
          exact hc.out
        · exact hall.out j hj h1 (by omega)
    · have e : r = -1 := by rw [← Hr.out]; exact find_miss s c i (fun j hj h1 => hall.out j hj h1 (by omega))
      subst e
      have hlt : ¬ (k : Int) < (s.size : Int) := by omega
      clear hkl hks
      go_wp2_with fail
      go_ret
      exact ⟨rfl, rfl⟩

end Go.Proofs.YtncmocmmkbmmjaaGreatDoor

/- Plain laws: what is read as a record is told just so; records that are the same are told the same. Own work; no statement. -/
set_option linter.unusedSimpArgs false
set_option linter.unusedVariables false
namespace Go.Proofs.YtncmocmmkbmmjaaGreatDoor

theorem numL_text {x : List UInt8} (h : (numL x).2 = true) : Lib.itoa (numL x).1 = x ∧ 0 ≤ (numL x).1 ∧ (numL x).1 ≤ 2147483647 := by
  have hv : numL x = if decOk x = true ∧ valTo x 0 ≤ 2147483647 then (valTo x 0, true) else (0, false) := by
    unfold numL
    cases hd : decOk x with
    | false => simp
    | true =>
      have hm := decToM_val (m := 2147483647) (by omega) x 0 (decOk_parts hd).2.2 (Int.le_refl _)
      rw [show min (0 : Int) (2147483647 + 1) = 0 by omega] at hm
      rw [hm]
      by_cases hv : valTo x 0 ≤ 2147483647
      · rw [if_pos ⟨rfl, by omega⟩, if_pos ⟨rfl, hv⟩, show min (valTo x 0) (2147483647 + 1) = valTo x 0 by omega]
      · rw [if_neg (by omega), if_neg (by omega)]
  rw [hv] at h ⊢
  split at h
  · rename_i hh
    rw [if_pos hh]
    dsimp only
    have hge := valTo_ge x 0 (decOk_parts hh.1).2.2 (Int.le_refl _)
    refine ⟨?_, hge, hh.2⟩
    rw [itoa_nat _ hge]
    have := digits_val x.reverse (by rw [List.reverse_reverse]; exact hh.1)
    rwa [List.reverse_reverse] at this
  · cases h

theorem cut_form {l : List UInt8} {c : UInt8} (h : (cutL l c).2.2 = true) : l = (cutL l c).1 ++ c :: (cutL l c).2.1 := by
  unfold cutL at *
  by_cases hi : Lib.indexByte l c = -1
  · rw [if_pos hi] at h
    cases h
  · rw [if_neg hi]
    dsimp only
    have hge := Lib.indexByte_ge l c
    have hlt := indexByte_lt l c
    obtain ⟨k, hk⟩ := Int.eq_ofNat_of_zero_le (show 0 ≤ Lib.indexByte l c by omega)
    rw [hk, Int.toNat_natCast]
    have hkl : k < l.length := by omega
    have hat : ∀ (l : List UInt8) (k : Nat), Lib.indexByte l c = k → l[k]? = some c := by
      intro l
      induction l with
      | nil => intro k h; simp [Lib.indexByte] at h
      | cons x l ih =>
        intro k h
        simp only [Lib.indexByte] at h
        split at h
        · rename_i hx
          have : k = 0 := by omega
          subst this
          simpa using hx
        · split at h
          · omega
          · cases k with
            | zero => have := Lib.indexByte_ge l c; rename_i h1 h2; simp at h2; omega
            | succ k => simpa using ih k (by omega)
    have hc := hat l k hk
    conv => lhs; rw [← List.take_append_drop k l]
    congr 1
    rw [List.drop_eq_getElem_cons hkl]
    congr 1
    rw [List.getElem?_eq_getElem hkl] at hc
    exact Option.some.inj hc

theorem split_form {s : List UInt8} {p : Parts} (h : splitR s = some p) : s = p.site ++ 58 :: (p.seq ++ 32 :: (p.dep ++ 32 :: (p.key ++ 61 :: p.val))) := by
  unfold splitR at h
  dsimp only at h
  have f1 := @cut_form s 58
  generalize cutL s 58 = c1 at *
  have f2 := @cut_form c1.2.1 32
  generalize cutL c1.2.1 32 = c2 at *
  generalize (Lib.indexByte c2.2.1 93 + 1).toNat = e at *
  have f3 := @cut_form (Lib.trimPrefix (c2.2.1.drop e) [32]) 61
  split at h
  · rename_i hh
    obtain ⟨g1, g2, g3, g4, g5⟩ := hh
    have e1 := Option.some.inj h
    subst e1
    dsimp only
    have hr : c2.2.1.drop e = 32 :: Lib.trimPrefix (c2.2.1.drop e) [32] := by
      unfold Lib.trimPrefix
      rw [g4, if_pos rfl]
      generalize c2.2.1.drop e = r at *
      cases r with
      | nil => simp [Lib.hasPrefix, List.isPrefixOf] at g4
      | cons x r =>
        simp [Lib.hasPrefix, List.isPrefixOf] at g4
        simp [g4]
    rw [← f3 g5, ← hr, List.take_append_drop, ← f2 g2, ← f1 g1]
  · cases h

theorem text_parseR {s : List UInt8} (h : (parseR s).2 = 0) : (textR (parseR s).1).data.toList = s := by
  unfold parseR at h ⊢
  cases hs : splitR s with
  | none =>
    rw [hs] at h
    exact absurd h (by decide +kernel : ¬ (parseP false [] [] [] [] []).2 = 0)
  | some p =>
    rw [hs] at h
    have hf := split_form hs
    dsimp only at h ⊢
    unfold parseP at h ⊢
    split at h
    · rename_i hh
      obtain ⟨-, n1, n2⟩ := hh
      rw [if_pos ⟨rfl, n1, n2⟩]
      split at h
      · rename_i h0
        rw [if_pos h0]
        split at h
        · rename_i hc
          rw [if_pos hc]
          dsimp only
          rw [textR_list]
          dsimp only
          rw [(numL_text n1).1, (numL_text n2).1, text_parse h0, hf]
        · rename_i hc
          exact absurd h hc
      · rename_i h0
        exact absurd h h0
    · cases h

theorem written_same {a b : List Int} (h : ∀ i, a.getD i 0 = b.getD i 0) : writtenL a = writtenL b := by
  have one : ∀ {a b : List Int}, (∀ i, a.getD i 0 = b.getD i 0) → writtenL a ≤ writtenL b := by
    intro a b h
    rcases Nat.lt_or_ge (writtenL b) (writtenL a) with hlt | hge
    · exfalso
      obtain ⟨k, hk⟩ : ∃ k, writtenL a = k + 1 := ⟨writtenL a - 1, by omega⟩
      exact writtenL_last a k hk (by rw [h k]; exact writtenL_past b k (by omega))
    · exact hge
  have h1 := one h
  have h2 := one (fun i => (h i).symm)
  omega
theorem nums_same {a b : List Int} (h : ∀ i, a.getD i 0 = b.getD i 0) : ∀ k, numsTo a k = numsTo b k
  | 0 => rfl
  | k + 1 => by simp only [numsTo]; rw [nums_same h k, h k]
theorem same_text {a b : RecD} (h : sameR a b = true) : textR a = textR b := by
  unfold sameR at h
  simp only [Bool.and_eq_true, decide_eq_true_eq] at h
  obtain ⟨h1, h2, h3, h4, h5⟩ := h
  rw [same_iff] at h5
  unfold textR textL
  rw [h1, h2, h3, h4, written_same h5, nums_same h5]

theorem nought_parse (r : RecD) (h0 : 0 ≤ r.site) : (parseR (48 :: (textR r).data.toList)).2 = 2 := by
  rw [textR_list]
  have hsite : ∀ c ∈ 48 :: Lib.itoa r.site, c ≠ 58 := by
    intro c hc
    rcases List.mem_cons.1 hc with rfl | hc
    · decide
    · exact itoa_ne h0 (by decide) c hc
  have hcut := cut_at (48 :: Lib.itoa r.site) (Lib.itoa r.seq ++ 32 :: (textL r.dep ++ 32 :: (r.key.data.toList ++ 61 :: r.val.data.toList))) 58 hsite
  have hne : Lib.itoa r.site ≠ [] := by rw [itoa_nat _ h0]; exact decDigits_ne _
  have hok : decOk (48 :: Lib.itoa r.site) = false := by
    unfold decOk
    have : 1 < (48 :: Lib.itoa r.site).length := by
      have := List.length_pos_iff.2 hne
      simp only [List.length_cons]
      omega
    rw [decide_eq_true this]
    simp
  have hnum : (numL (48 :: Lib.itoa r.site)).2 = false := by
    unfold numL
    rw [hok]
    simp
  unfold parseR
  cases hs : splitR (48 :: (Lib.itoa r.site ++ 58 :: (Lib.itoa r.seq ++ 32 :: (textL r.dep ++ 32 :: (r.key.data.toList ++ 61 :: r.val.data.toList))))) with
  | none => decide +kernel
  | some p =>
    dsimp only
    have hp : p.site = 48 :: Lib.itoa r.site := by
      unfold splitR at hs
      rw [← List.cons_append, hcut] at hs
      dsimp only at hs
      split at hs
      · have := Option.some.inj hs
        rw [← this]
      · cases hs
    unfold parseP
    rw [hp, hnum, if_neg (by simp)]

end Go.Proofs.YtncmocmmkbmmjaaGreatDoor

/- Plain laws: a record's parts, found place by place. Own work; no statement. -/
set_option linter.unusedSimpArgs false
set_option linter.unusedVariables false
namespace Go.Proofs.YtncmocmmkbmmjaaGreatDoor

theorem find_range (l : List UInt8) (c : UInt8) (i : Nat) : findL l c i = -1 ∨ ∃ k : Nat, findL l c i = k := by
  unfold findL
  split
  · exact .inl rfl
  · have := Lib.indexByte_ge (l.drop i) c
    exact .inr ⟨(i + Lib.indexByte (l.drop i) c).toNat, by omega⟩

theorem find_cut {l : List UInt8} {c : UInt8} {i k : Nat} (h : findL l c i = k) : i ≤ k ∧ k < l.length ∧ Lib.indexByte (l.drop i) c = ((k - i : Nat) : Int) ∧ cutL (l.drop i) c = ((l.drop i).take (k - i), l.drop (k + 1), true) := by
  unfold findL at h
  split at h
  · omega
  · rename_i hn
    have h1 := Lib.indexByte_ge (l.drop i) c
    have h2 := indexByte_lt (l.drop i) c
    rw [List.length_drop] at h2
    have e : Lib.indexByte (l.drop i) c = ((k - i : Nat) : Int) := by omega
    refine ⟨by omega, by omega, e, ?_⟩
    unfold cutL
    rw [e, if_neg (by omega), Int.toNat_natCast, List.drop_drop, show i + (k - i + 1) = k + 1 by omega]

theorem find_none {l : List UInt8} {c : UInt8} {i : Nat} (h : findL l c i = -1) : Lib.indexByte (l.drop i) c = -1 ∧ (cutL (l.drop i) c).2.2 = false := by
  unfold findL at h
  split at h
  · rename_i hn
    refine ⟨hn, ?_⟩
    unfold cutL
    rw [if_pos hn]
  · have h1 := Lib.indexByte_ge (l.drop i) c
    omega

theorem find_at {l : List UInt8} {c : UInt8} {i k : Nat} (h : findL l c i = k) : l[k]? = some c := by
  obtain ⟨h1, h2, -, h4⟩ := find_cut h
  have h5 := @cut_form (l.drop i) c (by rw [h4])
  rw [h4] at h5
  have h6 : (l.drop i)[k - i]? = some c := by
    rw [h5]
    dsimp only
    have hl : ((l.drop i).take (k - i)).length = k - i := by simp; omega
    rw [List.getElem?_append_right (by omega), hl, Nat.sub_self]
    rfl
  rwa [List.getElem?_drop, show i + (k - i) = k by omega] at h6

theorem find_step {l : List UInt8} {c x : UInt8} {i : Nat} (h : l[i]? = some x) (hx : x ≠ c) : findL l c i = findL l c (i + 1) := by
  obtain ⟨hi, rfl⟩ := List.getElem?_eq_some_iff.1 h
  unfold findL
  rw [List.drop_eq_getElem_cons hi]
  have hb : (l[i] == c) = false := by simpa using hx
  have hg := Lib.indexByte_ge (l.drop (i + 1)) c
  simp only [Lib.indexByte, hb]
  by_cases hn : Lib.indexByte (l.drop (i + 1)) c = -1
  · simp [hn]
  · simp [hn]
    omega

theorem none_parse {l : List UInt8} (h : splitR l = none) : parseR l = (zeroR, 2) := by
  unfold parseR
  rw [h]
  rfl

theorem at_a {l : List UInt8} (h : findL l 58 0 = -1) : splitR l = none := by
  have h1 := (find_none h).2
  rw [List.drop_zero] at h1
  unfold splitR
  dsimp only
  rw [if_neg (by simp [h1])]

theorem cut_a {l : List UInt8} {a : Nat} (h : findL l 58 0 = a) : a < l.length ∧ cutL l 58 = (l.take a, l.drop (a + 1), true) := by
  obtain ⟨-, h2, -, h4⟩ := find_cut h
  rw [List.drop_zero, Nat.sub_zero] at h4
  exact ⟨h2, h4⟩

theorem at_b {l : List UInt8} {a : Nat} (h : findL l 58 0 = a) (h' : findL l 32 a = -1) : splitR l = none := by
  have ha := (cut_a h).2
  rw [find_step (find_at h) (by decide)] at h'
  have h1 := (find_none h').2
  unfold splitR
  dsimp only
  rw [ha]
  dsimp only
  rw [if_neg (by simp [h1])]

theorem cut_b {l : List UInt8} {a b : Nat} (h : findL l 58 0 = a) (h' : findL l 32 a = b) : a < b ∧ b < l.length ∧ cutL (l.drop (a + 1)) 32 = ((l.drop (a + 1)).take (b - (a + 1)), l.drop (b + 1), true) := by
  rw [find_step (find_at h) (by decide)] at h'
  obtain ⟨h1, h2, -, h4⟩ := find_cut h'
  exact ⟨by omega, h2, h4⟩

theorem at_c {l : List UInt8} {a b : Nat} (ha : findL l 58 0 = a) (hb : findL l 32 a = b) (hc : findL l 93 b = -1) : splitR l = none := by
  rw [find_step (find_at hb) (by decide)] at hc
  have h1 := (find_none hc).1
  unfold splitR
  dsimp only
  rw [(cut_a ha).2]
  dsimp only
  rw [(cut_b ha hb).2.2]
  dsimp only
  rw [h1, if_neg (by simp)]

theorem cut_c {l : List UInt8} {b c : Nat} {a : Nat} (hb : findL l 32 a = b) (hc : findL l 93 b = c) : b < c ∧ c < l.length ∧ Lib.indexByte (l.drop (b + 1)) 93 = ((c - (b + 1) : Nat) : Int) := by
  rw [find_step (find_at hb) (by decide)] at hc
  obtain ⟨h1, h2, h3, -⟩ := find_cut hc
  exact ⟨by omega, h2, h3⟩

theorem prefix_head (r : List UInt8) (x : UInt8) : Lib.hasPrefix r [x] = decide (r.head? = some x) := by
  cases r with
  | nil => simp [Lib.hasPrefix, List.isPrefixOf]
  | cons y r =>
    simp only [Lib.hasPrefix, List.isPrefixOf, Bool.and_true, List.head?_cons, Option.some.injEq]
    by_cases h : x = y
    · simp [h]
    · have h' : ¬ y = x := fun e => h e.symm
      simp [h, h']

/-- Where the middle is found, what splitR sees. -/
theorem split_c {l : List UInt8} {a b c : Nat} (ha : findL l 58 0 = a) (hb : findL l 32 a = b) (hc : findL l 93 b = c) :
    splitR l = if l[c + 1]? = some 32 ∧ (cutL (Lib.trimPrefix (l.drop (c + 1)) [32]) 61).2.2 = true then some ⟨l.take a, (l.drop (a + 1)).take (b - (a + 1)), (l.drop (b + 1)).take (c - b), (cutL (Lib.trimPrefix (l.drop (c + 1)) [32]) 61).1, (cutL (Lib.trimPrefix (l.drop (c + 1)) [32]) 61).2.1⟩ else none := by
  obtain ⟨k1, k2, k3⟩ := cut_c hb hc
  unfold splitR
  dsimp only
  rw [(cut_a ha).2]
  dsimp only
  rw [(cut_b ha hb).2.2]
  dsimp only
  rw [k3, show (((c - (b + 1) : Nat) : Int) + 1).toNat = c - b by omega, List.drop_drop, show b + 1 + (c - b) = c + 1 by omega, prefix_head, List.head?_drop]
  have hne : c - b ≠ 0 := by omega
  simp only [true_and, decide_eq_true_eq, ne_eq, hne, not_false_eq_true]

theorem at_sp {l : List UInt8} {a b c : Nat} (ha : findL l 58 0 = a) (hb : findL l 32 a = b) (hc : findL l 93 b = c) (h : ¬ l[c + 1]? = some 32) : splitR l = none := by
  rw [split_c ha hb hc, if_neg (fun hh => h hh.1)]

theorem trim_sp {l : List UInt8} {c : Nat} (h : l[c + 1]? = some 32) : Lib.trimPrefix (l.drop (c + 1)) [32] = l.drop (c + 2) := by
  unfold Lib.trimPrefix
  rw [prefix_head, List.head?_drop, h]
  simp

theorem at_d {l : List UInt8} {a b c : Nat} (ha : findL l 58 0 = a) (hb : findL l 32 a = b) (hc : findL l 93 b = c) (h : l[c + 1]? = some 32) (hd : findL l 61 c = -1) : splitR l = none := by
  rw [find_step (find_at hc) (by decide), find_step h (by decide)] at hd
  have h1 := (find_none hd).2
  rw [split_c ha hb hc, trim_sp h, if_neg (by simp [h1])]

theorem at_all {l : List UInt8} {a b c d : Nat} (ha : findL l 58 0 = a) (hb : findL l 32 a = b) (hc : findL l 93 b = c) (h : l[c + 1]? = some 32) (hd : findL l 61 c = d) :
    splitR l = some ⟨l.take a, (l.drop (a + 1)).take (b - (a + 1)), (l.drop (b + 1)).take (c - b), (l.drop (c + 2)).take (d - (c + 2)), l.drop (d + 1)⟩ ∧ c + 2 ≤ d ∧ d < l.length := by
  rw [find_step (find_at hc) (by decide), find_step h (by decide)] at hd
  obtain ⟨h1, h2, -, h4⟩ := find_cut hd
  rw [split_c ha hb hc, trim_sp h, h4]
  dsimp only
  rw [if_pos ⟨h, rfl⟩]
  exact ⟨rfl, h1, h2⟩

/-- Where no bracket stands, it is no record. -/
theorem no_bracket {l : List UInt8} {a b : Nat} (ha : findL l 58 0 = a) (hb : findL l 32 a = b) (h : ¬ l[b + 1]? = some 91) : parseR l = (zeroR, 2) := by
  rcases find_range l 93 b with hc | ⟨c, hc⟩
  · exact none_parse (at_c ha hb hc)
  · by_cases hs : l[c + 1]? = some 32
    · rcases find_range l 61 c with hd | ⟨d, hd⟩
      · exact none_parse (at_d ha hb hc hs hd)
      · have hp := (at_all ha hb hc hs hd).1
        have hbc := cut_c hb hc
        have hbr : parseL ((l.drop (b + 1)).take (c - b)) = ([], 2) := by
          unfold parseL bracketB
          rw [prefix_head, if_neg]
          have : ((l.drop (b + 1)).take (c - b)).head? = l[b + 1]? := by
            rw [List.head?_take, if_neg (by omega), List.head?_drop]
          rw [this, decide_eq_false h]
          simp
        unfold parseR
        rw [hp]
        dsimp only
        unfold parseP
        rw [hbr]
        dsimp only
        split
        · rw [if_neg (by decide)]
        · rfl
    · exact none_parse (at_sp ha hb hc hs)

end Go.Proofs.YtncmocmmkbmmjaaGreatDoor

/- The walks of the reference's Get, Covers, SameVec, CheckVec, Join, Meet. Own work; no statement. -/
set_option linter.unusedSimpArgs false
set_option linter.unusedVariables false
namespace Go.Proofs.YtncmocmmkbmmjaaGreatDoor
open Go.RowKit

set_option maxHeartbeats 400000 in
theorem refGet_calls (v : Value) (l : List Int) (i : Int) (w : World) (hv : IsNums .i64 w v l) (hl : l.length ≤ 1099511627776) :
    Calls Tryz.prog 106 #[v, .int .i64 i] w fun e w' => e = .returned (.int .i64 (geti l i)) ∧ w' = w := by
  by_cases h0 : i < 0
  · have e : geti l i = 0 := by unfold geti; rw [if_pos (.inl h0)]
    rw [e]
    obtain ⟨a, cap, rfl, -, -⟩ := hv
    go_enter Tryz.func106, Tryz.ntmps106
    go_wp2
    go_ret
    exact ⟨rfl, rfl⟩
  · by_cases h1 : (l.length : Int) ≤ i
    · have e : geti l i = 0 := by unfold geti; rw [if_pos (.inr h1)]
      rw [e]
      obtain ⟨a, cap, rfl, -, -⟩ := hv
      go_enter Tryz.func106, Tryz.ntmps106
      go_wp2
      go_ret
      exact ⟨rfl, rfl⟩
    · have e : geti l i = l.getD i.toNat 0 := by unfold geti; rw [if_neg (by omega)]
      rw [e]
      obtain ⟨n, rfl⟩ := Int.eq_ofNat_of_zero_le (show 0 ≤ i by omega)
      rcases hv.cases with ⟨rfl, -⟩ | ⟨b, o, cap, rfl, -, hc, hb, hcell⟩
      · exact absurd h1 (by simp)
      · have hcl := hcell n (by omega)
        have hlt : (n : Int) < (l.length : Int) := by omega
        clear hcell hv e
        go_enter Tryz.func106, Tryz.ntmps106
        go_wp2
        go_ret
        exact ⟨by simp, rfl⟩


set_option maxHeartbeats 400000 in
theorem refCheck_calls (v : Value) (l : List Int) (s : Int) (w : World) (hv : IsNums .i64 w v l) (hl : l.length ≤ 1099511627776) :
    Calls Tryz.prog 105 #[v, .int .i64 s] w fun e w' => e = .returned (.int .i64 (checkL l s)) ∧ w' = w := by
  obtain ⟨c, hc⟩ : ∃ c, checkL l s = c := ⟨_, rfl⟩
  rw [hc]
  have Hc := hide hc
  clear hc
  by_cases h1 : s < 1
  · obtain ⟨a1, cap, rfl, -, -⟩ := hv
    go_enter Tryz.func105, Tryz.ntmps105
    go_wp2
    go_ret
    exact ⟨ret_int (by rw [← Hc.out, checkL, if_pos (.inl h1)]), rfl⟩
  · by_cases h2 : 8 < s
    · obtain ⟨a1, cap, rfl, -, -⟩ := hv
      go_enter Tryz.func105, Tryz.ntmps105
      go_wp2
      go_ret
      exact ⟨ret_int (by rw [← Hc.out, checkL, if_pos (.inr h2)]), rfl⟩
    · by_cases h3 : s < (l.length : Int)
      · obtain ⟨a1, cap, rfl, -, -⟩ := hv
        go_enter Tryz.func105, Tryz.ntmps105
        go_wp2
        go_ret
        exact ⟨ret_int (by rw [← Hc.out, checkL, if_neg (by omega), if_pos h3]), rfl⟩
      · have e : checkN l = c := by rw [← Hc.out, checkL, if_neg (by omega), if_neg h3]
        clear Hc
        have E := hide e
        clear e
        rcases hv.cases with ⟨rfl, a1, cap, rfl⟩ | ⟨b, o, cap, rfl, -, hcap, hb, hcell⟩
        · have h3' : ¬ s < 0 := by omega
          go_enter Tryz.func105, Tryz.ntmps105
          go_wp2
          refine wp_loop_rounds 1 ?_
          rw [rounds_succ]
          go_wp2
          go_ret
          exact ⟨ret_int (by rw [← E.out]; rfl), rfl⟩
        · have Hcell := hide hcell
          clear hcell hv
          go_enter Tryz.func105, Tryz.ntmps105
          go_wp2
          go_loop [5] (fun i => ∃ k : Nat, i = .int .i64 (k : Int) ∧ k ≤ l.length ∧ checkN (l.drop k) = c) (fun i => l.length - (intOf i).toNat)
          case atStart => exact ⟨0, rfl, Nat.zero_le _, E.out⟩
          case round =>
            obtain ⟨k, rfl, hkn, hall⟩ := hrel
            replace hall := hide hall
            by_cases hk : k < l.length
            · have hlt' : (k : Int) < (l.length : Int) := by omega
              have hcl := Hcell.out k hk
              have hd := hide (checkN_drop l k hk)
              generalize l.getD k 0 = x at hcl hd
              by_cases hx : x < 0
              · go_wp2
                go_ret
                exact ⟨ret_int (by rw [← hall.out, hd.out, if_pos hx]), rfl⟩
              · by_cases hx2 : 1048576 < x
                · go_wp2
                  go_ret
                  exact ⟨ret_int (by rw [← hall.out, hd.out, if_neg (by omega), if_pos hx2]), rfl⟩
                · go_wp2
                  exact ⟨⟨k + 1, by go_num, by omega, by rw [← hall.out, hd.out, if_neg (by omega), if_neg (by omega)]⟩, by simp [intOf]; omega⟩
            · go_wp2
              go_ret
              exact ⟨ret_int (by rw [← hall.out, List.drop_of_length_le (by omega)]; rfl), rfl⟩


set_option maxHeartbeats 1000000 in
theorem refCovers_calls (va vb : Value) (a b : List Int) (w : World) (ha : IsNums .i64 w va a) (hb : IsNums .i64 w vb b) (hla : a.length ≤ 1099511627776) (hlb : b.length ≤ 1099511627776) :
    Calls Tryz.prog 94 #[va, vb] w fun e w' => e = .returned (.bool (everyB covB a b)) ∧ w' = w := by
  obtain ⟨a1, capa, rfl, -, -⟩ := id ha
  obtain ⟨b1, capb, rfl, -, -⟩ := id hb
  have Ha := hide ha
  have Hb := hide hb
  clear ha hb
  go_enter Tryz.func94, Tryz.ntmps94
  go_wp2
  go_loop [5] (fun i => ∃ k : Nat, i = .int .i64 (k : Int) ∧ k ≤ max a.length b.length ∧ ∀ j : Nat, j < k → covB (geti a j) (geti b j) = true) (fun i => max a.length b.length - (intOf i).toNat)
  case atStart => exact ⟨0, rfl, Nat.zero_le _, fun j h => absurd h (Nat.not_lt_zero j)⟩
  case round =>
    obtain ⟨k, rfl, hkn, hall⟩ := hrel
    replace hall := hide hall
    by_cases hk : k < max a.length b.length
    · have hcase : (k : Int) < (a.length : Int) ∨ (¬ (k : Int) < (a.length : Int) ∧ (k : Int) < (b.length : Int)) := by omega
      rcases hcase with hk1 | ⟨hk1, hk2⟩
      all_goals
        cases hf : covB (geti a k) (geti b k)
        · have hlt : geti a k < geti b k := by simpa [covB] using hf
          have hf' := hide hf
          clear hf
          go_wp2_with (first | (go_at_call_of 106 (Value.slice a1 a.length capa); refine (refGet_calls _ _ _ _ Ha.out hla).mono ?_; rintro e w' ⟨rfl, rfl⟩) | (go_at_call_of 106 (Value.slice b1 b.length capb); refine (refGet_calls _ _ _ _ Hb.out hlb).mono ?_; rintro e w' ⟨rfl, rfl⟩))
          go_ret
          refine ⟨?_, rfl⟩
          rw [everyB_no covB a b k hk (by rw [← geti_nat, ← geti_nat]; exact hf'.out)]
          rfl
        · have hlt : ¬ geti a k < geti b k := by simpa [covB] using hf
          have hf' := hide hf
          clear hf
          go_wp2_with (first | (go_at_call_of 106 (Value.slice a1 a.length capa); refine (refGet_calls _ _ _ _ Ha.out hla).mono ?_; rintro e w' ⟨rfl, rfl⟩) | (go_at_call_of 106 (Value.slice b1 b.length capb); refine (refGet_calls _ _ _ _ Hb.out hlb).mono ?_; rintro e w' ⟨rfl, rfl⟩))
          refine ⟨⟨k + 1, by go_num, by omega, fun j hj => ?_⟩, by simp [intOf]; omega⟩
          by_cases e : j = k
          · rw [e]; exact hf'.out
          · exact hall.out j (by omega)
    · have hk1 : ¬ (k : Int) < (a.length : Int) := by omega
      have hk2 : ¬ (k : Int) < (b.length : Int) := by omega
      go_wp2
      go_ret
      refine ⟨?_, rfl⟩
      rw [everyB_yes covB a b (fun i hi => by rw [← geti_nat, ← geti_nat]; exact hall.out i (by omega))]
      rfl

set_option maxHeartbeats 400000 in
theorem refSame_calls (va vb : Value) (a b : List Int) (w : World) (ha : IsNums .i64 w va a) (hb : IsNums .i64 w vb b) (hla : a.length ≤ 1099511627776) (hlb : b.length ≤ 1099511627776) :
    Calls Tryz.prog 75 #[va, vb] w fun e w' => e = .returned (.bool (everyB eqB a b)) ∧ w' = w := by
  rw [same_cov]
  cases h1 : everyB covB a b
  all_goals
    have c1 := hide (refCovers_calls va vb a b w ha hb hla hlb)
    have c2 := hide (refCovers_calls vb va b a w hb ha hlb hla)
    rw [h1] at c1
    generalize everyB covB b a = d at *
    clear ha hb h1
    go_enter Tryz.func75, Tryz.ntmps75
    go_wp2_with fail
    refine c1.out.mono ?_
    rintro e w' ⟨rfl, rfl⟩
    go_wp2_with fail
  · go_ret
    exact ⟨rfl, rfl⟩
  · refine c2.out.mono ?_
    rintro e w' ⟨rfl, rfl⟩
    go_wp2_with fail
    go_ret
    exact ⟨by simp, rfl⟩

theorem siteJoin_take (a b : List Int) (k : Nat) (h : k < max a.length b.length) : (bySiteL max a b).take (k + 1) = (bySiteL max a b).take k ++ [max (geti a k) (geti b k)] := by
  rw [take_snoc_getD _ k (by rw [bySiteL_length]; exact h), site_get (by decide), geti_nat, geti_nat]

theorem siteMeet_take (a b : List Int) (k : Nat) (h : k < max a.length b.length) : (bySiteL min a b).take (k + 1) = (bySiteL min a b).take k ++ [min (geti a k) (geti b k)] := by
  rw [take_snoc_getD _ k (by rw [bySiteL_length]; exact h), site_get (by decide), geti_nat, geti_nat]

end Go.Proofs.YtncmocmmkbmmjaaGreatDoor

/- The walks of the reference's Decimal, VecText, With. Own work; no statement. -/
set_option linter.unusedSimpArgs false
set_option linter.unusedVariables false
namespace Go.Proofs.YtncmocmmkbmmjaaGreatDoor
open Go.RowKit Go.Shelf

def headD (u : Nat) : List UInt8 := if u < 10 then [] else Lib.decDigits (u / 10)
theorem digits_head (u : Nat) : Lib.decDigits u = headD u ++ [UInt8.ofNat (48 + u % 10)] := by
  rw [Lib.decDigits]
  unfold headD
  split
  · rename_i h
    rw [Nat.mod_eq_of_lt h]; rfl
  · rfl
theorem cons_bytes (b : UInt8) (S : List UInt8) : (⟨#[b]⟩ : ByteArray) ++ ⟨S.toArray⟩ = ⟨(b :: S).toArray⟩ := by
  apply ByteArray.ext
  simp [ByteArray.data_append]
theorem conv_one (w : World) (b : UInt8) (c : Int) (hc : (b.toNat : Int) = c) : (convert 49 9 (.slice (some ⟨w.heap.size, 0, none⟩) 1 1)).run Tryz.prog (w.alloc (.cells #[.int .u8 c] 5)) = .ok (.string ⟨#[b]⟩) (w.alloc (.cells #[.int .u8 c] 5)) := by
  subst hc
  have h : (w.alloc (.cells #[.int .u8 (b.toNat : Int)] 5)).ownsRow 0 5 1 (.slice (some ⟨w.heap.size, 0, none⟩) 1 1) 1 (Lib.byteCells [b]) := World.ownsRow_lit _ #[.int .u8 (b.toNat : Int)] 1 (Nat.zero_le _) (by unfold maxLen; omega) rfl
  exact conv_row h Tryz.underlying49 Tryz.underlying5 Tryz.underlying9

def lenOf' : Value → Nat
  | .slice _ n _ => n
  | _ => 0
theorem stretchL_succ (l : List Int) (k : Nat) (h : l.length ≤ k) : stretchL l (k + 1) = stretchL l k ++ [0] := by
  unfold stretchL
  rw [show k + 1 - l.length = (k - l.length) + 1 by omega, List.replicate_succ', List.append_assoc]

end Go.Proofs.YtncmocmmkbmmjaaGreatDoor

/- The walks of the reference's Decimal of whatever number, and VecText. Own work; no statement. -/
set_option linter.unusedSimpArgs false
set_option linter.unusedVariables false
namespace Go.Proofs.YtncmocmmkbmmjaaGreatDoor
open Go.RowKit Go.Shelf

theorem least_text : Lib.itoa (-9223372036854775808) = [45, 57, 50, 50, 51, 51, 55, 50, 48, 51, 54, 56, 53, 52, 55, 55, 53, 56, 48, 56] := by
  unfold Lib.itoa
  rw [if_pos (by decide)]
  simp [Lib.decDigits]

end Go.Proofs.YtncmocmmkbmmjaaGreatDoor
