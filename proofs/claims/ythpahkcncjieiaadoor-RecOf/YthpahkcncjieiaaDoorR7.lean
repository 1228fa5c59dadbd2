/- rec's Parse: a text as a record. Own work; no statement. -/
import Derived.Test.YthpahkcncjieiaaDoorR6
import Derived.Outline
set_option linter.unusedSimpArgs false
set_option linter.unusedVariables false
namespace Go.Proofs.YthpahkcncjieiaaDoor
open Go.RowKit Go.Sort

def zeroR : RecD := ⟨0, 0, [], ⟨#[]⟩, ⟨#[]⟩⟩
/-- A record's parts as the record, and the error's number. -/
def parseP (ok : Bool) (p1 p2 p3 p4 p5 : List UInt8) : RecD × Int :=
  if ok = true ∧ (numL p1).2 = true ∧ (numL p2).2 = true then
    (if (parseL p3).2 = 0 then
      (if checkR ⟨(numL p1).1, (numL p2).1, (parseL p3).1, ⟨p4.toArray⟩, ⟨p5.toArray⟩⟩ 8 = 0 then (⟨(numL p1).1, (numL p2).1, (parseL p3).1, ⟨p4.toArray⟩, ⟨p5.toArray⟩⟩, 0)
        else (zeroR, checkR ⟨(numL p1).1, (numL p2).1, (parseL p3).1, ⟨p4.toArray⟩, ⟨p5.toArray⟩⟩ 8))
      else (zeroR, (parseL p3).2))
    else (zeroR, 2)
/-- A text as a record, and the error's number. -/
def parseR (s : List UInt8) : RecD × Int :=
  match splitR s with
  | some p => parseP true p.site p.seq p.dep p.key p.val
  | none => parseP false [] [] [] [] []

theorem splitR_length {s : List UInt8} {p : Parts} (h : splitR s = some p) : p.site.length ≤ s.length ∧ p.seq.length ≤ s.length ∧ p.dep.length ≤ s.length ∧ p.key.length ≤ s.length ∧ p.val.length ≤ s.length := by
  unfold splitR at h
  dsimp only at h
  have h1 := cutL_length s 58
  generalize cutL s 58 = c1 at *
  have h2 := cutL_length c1.2.1 32
  generalize cutL c1.2.1 32 = c2 at *
  generalize (Lib.indexByte c2.2.1 93 + 1).toNat = e at *
  have h3 := trimPrefix_length (c2.2.1.drop e) [32]
  have h4 := cutL_length (Lib.trimPrefix (c2.2.1.drop e) [32]) 61
  generalize cutL (Lib.trimPrefix (c2.2.1.drop e) [32]) 61 = c3 at *
  split at h
  · have e1 := Option.some.inj h
    subst e1
    simp only [List.length_drop] at h3
    refine ⟨by dsimp only; omega, by dsimp only; omega, by dsimp only; simp; omega, by dsimp only; omega, by dsimp only; omega⟩
  · cases h

theorem parseL_len (s : List UInt8) : (parseL s).1.length ≤ 8 := by
  unfold parseL parseN
  have := stOf_len (splitL (innerL s))
  split
  · split
    · simp
    · split
      · split
        · simp
        · split
          · simp
          · simpa using this
      · simp
  · simp
theorem own_below {W W' : World} {B : Nat} {e : TypeId} {size : Nat} {v : Value} {n : Nat} {xs : List Value} (h : W.ownsRow B e size v n xs) (hB : Below W.heap.size W W') : W'.ownsRow B e size v n xs :=
  ownsRow_of_heap h fun k hk => hB.block k (h.lt k hk).2
theorem keepB {b : Nat} {o : Obj} {W W' : World} (h : W.heap[b]? = some o) (hB : Below W.heap.size W W') : W'.heap[b]? = some o := (hB.block b (Array.getElem?_eq_some_iff.1 h).1).trans h
theorem ltB {b : Nat} {o : Obj} {W : World} (h : W.heap[b]? = some o) : b < W.heap.size := (Array.getElem?_eq_some_iff.1 h).1

/-- What Parse hands back is in its own block: the end of each way that tells an error. -/
theorem parse_zero {W w : World} {b : Nat} {x0 x1 x2 x3 x4 : Value} {t : TypeId} (h : W.heap[b]? = some (.cells #[x0, x1, x2, x3, x4] t (0, 0))) (hB : Below w.heap.size w W) (hb : w.heap.size ≤ b) :
    ∃ W', put5 W b (.int .i64 0) (.int .i64 0) (.slice none 0 0) (.string ⟨#[]⟩) (.string ⟨#[]⟩) = W' ∧ W'.cell? ⟨b, 0, none⟩ = some (.int .i64 0) ∧ W'.cell? ⟨b, 1, none⟩ = some (.int .i64 0) ∧ W'.cell? ⟨b, 2, none⟩ = some (.slice none 0 0) ∧ W'.cell? ⟨b, 3, none⟩ = some (.string ⟨#[]⟩) ∧ W'.cell? ⟨b, 4, none⟩ = some (.string ⟨#[]⟩) ∧ Below w.heap.size w W' := by
  have e := put5_heap h (.int .i64 0) (.int .i64 0) (.slice none 0 0) (.string ⟨#[]⟩) (.string ⟨#[]⟩)
  exact ⟨_, rfl, cell_at e 0, cell_at e 1, cell_at e 2, cell_at e 3, cell_at e 4, put5_below hB hb _ _ _ _ _⟩
theorem zero_own (B : Nat) (w : World) : OwnRec B w (.agg #[.int .i64 0, .int .i64 0, .slice none 0 0, .string ⟨#[]⟩, .string ⟨#[]⟩]) zeroR := ⟨_, rfl, World.ownsRow_nil _ _ _ _⟩

set_option maxHeartbeats 4000000 in
set_option maxRecDepth 100000 in
theorem recParse_calls (s : List UInt8) (w : World) (hs : s.length ≤ 1099511627776) :
    Calls Tryd.prog 10 #[.string ⟨s.toArray⟩] w fun e w' => ∃ v, e = .returned (.tuple #[v, .int .i64 (parseR s).2]) ∧ OwnRec w.heap.size w' v (parseR s).1 ∧ Below w.heap.size w w' := by
  have u1 := split_calls s (w.alloc (.cells #[.int .i64 0, .int .i64 0, .slice none 0 0, .string ⟨#[]⟩, .string ⟨#[]⟩] 30)) hs
  obtain ⟨ok, p1, p2, p3, p4, p5, l1, l2, l3, l4, l5, hv, hok, hpr⟩ : ∃ ok p1 p2 p3 p4 p5, p1.length ≤ 1099511627776 ∧ p2.length ≤ 1099511627776 ∧ p3.length ≤ 1099511627776 ∧ p4.length ≤ 1099511627776 ∧ p5.length ≤ 1099511627776 ∧
      partsV (splitR s) = .agg #[.string ⟨p1.toArray⟩, .string ⟨p2.toArray⟩, .string ⟨p3.toArray⟩, .string ⟨p4.toArray⟩, .string ⟨p5.toArray⟩] ∧ (splitR s).isSome = ok ∧ parseR s = parseP ok p1 p2 p3 p4 p5 := by
    unfold parseR
    cases h : splitR s with
    | none => exact ⟨false, [], [], [], [], [], by simp, by simp, by simp, by simp, by simp, rfl, rfl, rfl⟩
    | some p =>
      obtain ⟨a1, a2, a3, a4, a5⟩ := splitR_length h
      exact ⟨true, p.site, p.seq, p.dep, p.key, p.val, by omega, by omega, by omega, by omega, by omega, rfl, rfl, rfl⟩
  rw [hv, hok] at u1
  rw [hpr]
  have U1 := hide u1
  clear u1 hv hok hpr hs
  obtain ⟨P, hP⟩ : ∃ P, parseP ok p1 p2 p3 p4 p5 = P := ⟨_, rfl⟩
  rw [hP]
  unfold parseP at hP
  have u2 := hide (fun w => numParse_calls ⟨p1.toArray⟩ w (by simpa [ByteArray.size] using l1))
  have u3 := hide (fun w => numParse_calls ⟨p2.toArray⟩ w (by simpa [ByteArray.size] using l2))
  have u4 := hide (fun w => parseO_calls ⟨p3.toArray⟩ w (by simpa [ByteArray.size] using l3))
  rw [show (⟨p1.toArray⟩ : ByteArray).data.toList = p1 from rfl] at u2
  rw [show (⟨p2.toArray⟩ : ByteArray).data.toList = p2 from rfl] at u3
  rw [show (⟨p3.toArray⟩ : ByteArray).data.toList = p3 from rfl] at u4
  generalize numL p1 = n1 at *
  generalize numL p2 = n2 at *
  have hdl := parseL_len p3
  generalize parseL p3 = n3 at *
  obtain ⟨site, b1⟩ := n1
  obtain ⟨seq, b2⟩ := n2
  obtain ⟨dep, e3⟩ := n3
  dsimp only at *
  have HP := hide hP
  clear hP
  have z0 : (w.alloc (.cells #[.int .i64 0, .int .i64 0, .slice none 0 0, .string ⟨#[]⟩, .string ⟨#[]⟩] 30)).heap[w.heap.size]? = some (.cells #[.int .i64 0, .int .i64 0, .slice none 0 0, .string ⟨#[]⟩, .string ⟨#[]⟩] 30 (0, 0)) := World.alloc_heap_new w _
  have HB0 := box_below w (.cells #[.int .i64 0, .int .i64 0, .slice none 0 0, .string ⟨#[]⟩, .string ⟨#[]⟩] 30)
  generalize hW0 : w.alloc (.cells #[.int .i64 0, .int .i64 0, .slice none 0 0, .string ⟨#[]⟩, .string ⟨#[]⟩] 30) = W0 at *
  have HW := hide hW0
  clear hW0
  go_enter Tryd.func10, Tryd.ntmps10
  go_wp2_with fail
  rw [HW.out]
  refine U1.out.mono ?_
  rintro e w1 ⟨rfl, hB1⟩
  replace z0 := keepB z0 hB1
  have hB := HB0.trans (hB1.mono HB0.size)
  clear U1 HW HB0 hB1
  have d0 := cell_at z0 0
  have d1 := cell_at z0 1
  have d2 := cell_at z0 2
  have d3 := cell_at z0 3
  have d4 := cell_at z0 4
  simp only [List.getElem?_toArray, List.getElem?_cons_zero, List.getElem?_cons_succ] at d0 d1 d2 d3 d4
  have g0 := frozen_at z0 0
  have g1 := frozen_at z0 1
  have g2 := frozen_at z0 2
  have g3 := frozen_at z0 3
  have g4 := frozen_at z0 4
  have zlt := ltB z0
  have Z0 := hide z0
  clear z0
  cases ok with
  | false =>
    have e := HP.out
    rw [if_neg (by simp)] at e
    subst e
    clear HP
    go_wp2_with (first | (go_at_call_of 22 (Value.string ⟨p1.toArray⟩); refine (u2.out _).mono ?_; rintro e w' ⟨rfl, rfl⟩) | (go_at_call_of 22 (Value.string ⟨p2.toArray⟩); refine (u3.out _).mono ?_; rintro e w' ⟨rfl, rfl⟩))
    obtain ⟨W', hW', k0, k1, k2, k3, k4, hB'⟩ := parse_zero Z0.out hB (Nat.le_refl _)
    unfold put5 at hW'
    rw [hW']
    have k0 := Lib.cell?_alloc_some (.cells #[.string ⟨p1.toArray⟩, .string ⟨p2.toArray⟩, .string ⟨p3.toArray⟩, .string ⟨p4.toArray⟩, .string ⟨p5.toArray⟩] 57) k0
    have k1 := Lib.cell?_alloc_some (.cells #[.string ⟨p1.toArray⟩, .string ⟨p2.toArray⟩, .string ⟨p3.toArray⟩, .string ⟨p4.toArray⟩, .string ⟨p5.toArray⟩] 57) k1
    have k2 := Lib.cell?_alloc_some (.cells #[.string ⟨p1.toArray⟩, .string ⟨p2.toArray⟩, .string ⟨p3.toArray⟩, .string ⟨p4.toArray⟩, .string ⟨p5.toArray⟩] 57) k2
    have k3 := Lib.cell?_alloc_some (.cells #[.string ⟨p1.toArray⟩, .string ⟨p2.toArray⟩, .string ⟨p3.toArray⟩, .string ⟨p4.toArray⟩, .string ⟨p5.toArray⟩] 57) k3
    have k4 := Lib.cell?_alloc_some (.cells #[.string ⟨p1.toArray⟩, .string ⟨p2.toArray⟩, .string ⟨p3.toArray⟩, .string ⟨p4.toArray⟩, .string ⟨p5.toArray⟩] 57) k4
    exact bodyPost_ret (v := .tuple #[.agg #[.int .i64 0, .int .i64 0, .slice none 0 0, .string ⟨#[]⟩, .string ⟨#[]⟩], .int .i64 2]) (by simp [results, Tryd.f10, go_sem, k0, k1, k2, k3, k4]) rfl ⟨_, rfl, zero_own _ _, hB'.alloc hB'.size _⟩
  | true =>
    cases b1 with
    | false =>
      have e := HP.out
      rw [if_neg (by simp)] at e
      subst e
      clear HP
      go_wp2_with (first | (go_at_call_of 22 (Value.string ⟨p1.toArray⟩); refine (u2.out _).mono ?_; rintro e w' ⟨rfl, rfl⟩) | (go_at_call_of 22 (Value.string ⟨p2.toArray⟩); refine (u3.out _).mono ?_; rintro e w' ⟨rfl, rfl⟩))
      obtain ⟨W', hW', k0, k1, k2, k3, k4, hB'⟩ := parse_zero Z0.out hB (Nat.le_refl _)
      unfold put5 at hW'
      rw [hW']
      have k0 := Lib.cell?_alloc_some (.cells #[.string ⟨p1.toArray⟩, .string ⟨p2.toArray⟩, .string ⟨p3.toArray⟩, .string ⟨p4.toArray⟩, .string ⟨p5.toArray⟩] 57) k0
      have k1 := Lib.cell?_alloc_some (.cells #[.string ⟨p1.toArray⟩, .string ⟨p2.toArray⟩, .string ⟨p3.toArray⟩, .string ⟨p4.toArray⟩, .string ⟨p5.toArray⟩] 57) k1
      have k2 := Lib.cell?_alloc_some (.cells #[.string ⟨p1.toArray⟩, .string ⟨p2.toArray⟩, .string ⟨p3.toArray⟩, .string ⟨p4.toArray⟩, .string ⟨p5.toArray⟩] 57) k2
      have k3 := Lib.cell?_alloc_some (.cells #[.string ⟨p1.toArray⟩, .string ⟨p2.toArray⟩, .string ⟨p3.toArray⟩, .string ⟨p4.toArray⟩, .string ⟨p5.toArray⟩] 57) k3
      have k4 := Lib.cell?_alloc_some (.cells #[.string ⟨p1.toArray⟩, .string ⟨p2.toArray⟩, .string ⟨p3.toArray⟩, .string ⟨p4.toArray⟩, .string ⟨p5.toArray⟩] 57) k4
      exact bodyPost_ret (v := .tuple #[.agg #[.int .i64 0, .int .i64 0, .slice none 0 0, .string ⟨#[]⟩, .string ⟨#[]⟩], .int .i64 2]) (by simp [results, Tryd.f10, go_sem, k0, k1, k2, k3, k4]) rfl ⟨_, rfl, zero_own _ _, hB'.alloc hB'.size _⟩
    | true =>
      cases b2 with
      | false =>
        have e := HP.out
        rw [if_neg (by simp)] at e
        subst e
        clear HP
        go_wp2_with (first | (go_at_call_of 22 (Value.string ⟨p1.toArray⟩); refine (u2.out _).mono ?_; rintro e w' ⟨rfl, rfl⟩) | (go_at_call_of 22 (Value.string ⟨p2.toArray⟩); refine (u3.out _).mono ?_; rintro e w' ⟨rfl, rfl⟩))
        obtain ⟨W', hW', k0, k1, k2, k3, k4, hB'⟩ := parse_zero Z0.out hB (Nat.le_refl _)
        unfold put5 at hW'
        rw [hW']
        have k0 := Lib.cell?_alloc_some (.cells #[.string ⟨p1.toArray⟩, .string ⟨p2.toArray⟩, .string ⟨p3.toArray⟩, .string ⟨p4.toArray⟩, .string ⟨p5.toArray⟩] 57) k0
        have k1 := Lib.cell?_alloc_some (.cells #[.string ⟨p1.toArray⟩, .string ⟨p2.toArray⟩, .string ⟨p3.toArray⟩, .string ⟨p4.toArray⟩, .string ⟨p5.toArray⟩] 57) k1
        have k2 := Lib.cell?_alloc_some (.cells #[.string ⟨p1.toArray⟩, .string ⟨p2.toArray⟩, .string ⟨p3.toArray⟩, .string ⟨p4.toArray⟩, .string ⟨p5.toArray⟩] 57) k2
        have k3 := Lib.cell?_alloc_some (.cells #[.string ⟨p1.toArray⟩, .string ⟨p2.toArray⟩, .string ⟨p3.toArray⟩, .string ⟨p4.toArray⟩, .string ⟨p5.toArray⟩] 57) k3
        have k4 := Lib.cell?_alloc_some (.cells #[.string ⟨p1.toArray⟩, .string ⟨p2.toArray⟩, .string ⟨p3.toArray⟩, .string ⟨p4.toArray⟩, .string ⟨p5.toArray⟩] 57) k4
        exact bodyPost_ret (v := .tuple #[.agg #[.int .i64 0, .int .i64 0, .slice none 0 0, .string ⟨#[]⟩, .string ⟨#[]⟩], .int .i64 2]) (by simp [results, Tryd.f10, go_sem, k0, k1, k2, k3, k4]) rfl ⟨_, rfl, zero_own _ _, hB'.alloc hB'.size _⟩
      | true =>
        have e := HP.out
        rw [if_pos ⟨rfl, rfl, rfl⟩] at e
        clear HP
        replace e := hide e
        go_wp2_with (first | (go_at_call_of 22 (Value.string ⟨p1.toArray⟩); refine (u2.out _).mono ?_; rintro e w' ⟨rfl, rfl⟩) | (go_at_call_of 22 (Value.string ⟨p2.toArray⟩); refine (u3.out _).mono ?_; rintro e w' ⟨rfl, rfl⟩))
        have y0 : (w1.alloc (.cells #[.string ⟨p1.toArray⟩, .string ⟨p2.toArray⟩, .string ⟨p3.toArray⟩, .string ⟨p4.toArray⟩, .string ⟨p5.toArray⟩] 57)).heap[w1.heap.size]? = some (.cells #[.string ⟨p1.toArray⟩, .string ⟨p2.toArray⟩, .string ⟨p3.toArray⟩, .string ⟨p4.toArray⟩, .string ⟨p5.toArray⟩] 57 (0, 0)) := World.alloc_heap_new w1 _
        have z0 := keepB Z0.out (box_below w1 (.cells #[.string ⟨p1.toArray⟩, .string ⟨p2.toArray⟩, .string ⟨p3.toArray⟩, .string ⟨p4.toArray⟩, .string ⟨p5.toArray⟩] 57))
        have hB2 := hB.alloc hB.size (.cells #[.string ⟨p1.toArray⟩, .string ⟨p2.toArray⟩, .string ⟨p3.toArray⟩, .string ⟨p4.toArray⟩, .string ⟨p5.toArray⟩] 57)
        clear Z0 hB d0 d1 d2 d3 d4 g0 g1 g2 g3 g4
        generalize w1.alloc (.cells #[.string ⟨p1.toArray⟩, .string ⟨p2.toArray⟩, .string ⟨p3.toArray⟩, .string ⟨p4.toArray⟩, .string ⟨p5.toArray⟩] 57) = W2 at *
        refine (u4.out _).mono ?_
        rintro e w3 ⟨v, rfl, hn, hB3⟩
        obtain ⟨a, cap, rfl⟩ := ownsRow_slice hn
        have hnew : ∀ k, (Value.slice a dep.length cap).ownBlock = some k → w.heap.size < k ∧ k < w3.heap.size := fun k hk => ⟨by have := (hn.lt k hk).1; have := ltB z0; omega, (hn.lt k hk).2⟩
        have hw2 := ltB z0
        have hw3 := hB3.size
        replace y0 := keepB y0 hB3
        replace z0 := keepB z0 hB3
        have hB := hB2.trans (hB3.mono hB2.size)
        clear u2 u3 u4 hB2 hB3
        have d0 := cell_at z0 0
        have d1 := cell_at z0 1
        have d2 := cell_at z0 2
        have d3 := cell_at z0 3
        have d4 := cell_at z0 4
        simp only [List.getElem?_toArray, List.getElem?_cons_zero, List.getElem?_cons_succ] at d0 d1 d2 d3 d4
        have g0 := frozen_at z0 0
        have g1 := frozen_at z0 1
        have g2 := frozen_at z0 2
        have g3 := frozen_at z0 3
        have g4 := frozen_at z0 4
        have c0 := cell_at y0 0
        have c1 := cell_at y0 1
        have c2 := cell_at y0 2
        have c3 := cell_at y0 3
        have c4 := cell_at y0 4
        simp only [List.getElem?_toArray, List.getElem?_cons_zero, List.getElem?_cons_succ] at c0 c1 c2 c3 c4
        have zlt := ltB z0
        have ylt := ltB y0
        have Z0 := hide z0
        have Y0 := hide y0
        have Hn := hide hn
        clear z0 y0 hn
        by_cases he3 : e3 = 0
        case neg =>
          have e1 := e.out
          rw [if_neg he3] at e1
          subst e1
          clear e
          have he3' : (e3 != 0) = true := by simp [he3]
          clear he3
          go_wp2
          obtain ⟨W', hW', k0, k1, k2, k3, k4, hB'⟩ := parse_zero Z0.out hB (Nat.le_refl _)
          unfold put5 at hW'
          rw [hW']
          exact bodyPost_ret (v := .tuple #[.agg #[.int .i64 0, .int .i64 0, .slice none 0 0, .string ⟨#[]⟩, .string ⟨#[]⟩], .int .i64 e3]) (by simp [results, Tryd.f10, go_sem, k0, k1, k2, k3, k4]) rfl ⟨_, rfl, zero_own _ _, hB'⟩
        have e1 := e.out
        rw [if_pos he3] at e1
        subst he3
        clear e
        obtain ⟨c, hc⟩ : ∃ c, checkR ⟨site, seq, dep, ⟨p4.toArray⟩, ⟨p5.toArray⟩⟩ 8 = c := ⟨_, rfl⟩
        rw [hc] at e1
        have e2 := hide e1
        have Hc := hide hc
        clear e1 hc

        go_wp2_with fail
        have x0 : (w3.alloc (.cells #[.int .i64 site, .int .i64 seq, .slice a dep.length cap, .string ⟨p4.toArray⟩, .string ⟨p5.toArray⟩] 30)).heap[w3.heap.size]? = some (.cells #[.int .i64 site, .int .i64 seq, .slice a dep.length cap, .string ⟨p4.toArray⟩, .string ⟨p5.toArray⟩] 30 (0, 0)) := World.alloc_heap_new w3 _
        have z0 := keepB Z0.out (box_below w3 (.cells #[.int .i64 site, .int .i64 seq, .slice a dep.length cap, .string ⟨p4.toArray⟩, .string ⟨p5.toArray⟩] 30))
        have y0 := keepB Y0.out (box_below w3 (.cells #[.int .i64 site, .int .i64 seq, .slice a dep.length cap, .string ⟨p4.toArray⟩, .string ⟨p5.toArray⟩] 30))
        have hn := own_below Hn.out (box_below w3 (.cells #[.int .i64 site, .int .i64 seq, .slice a dep.length cap, .string ⟨p4.toArray⟩, .string ⟨p5.toArray⟩] 30))
        have hB2 := hB.alloc hB.size (.cells #[.int .i64 site, .int .i64 seq, .slice a dep.length cap, .string ⟨p4.toArray⟩, .string ⟨p5.toArray⟩] 30)
        clear Z0 Y0 Hn hB d0 d1 d2 d3 d4 g0 g1 g2 g3 g4 c0 c1 c2 c3 c4
        generalize w3.alloc (.cells #[.int .i64 site, .int .i64 seq, .slice a dep.length cap, .string ⟨p4.toArray⟩, .string ⟨p5.toArray⟩] 30) = W4 at *
        have hck := recCheck_calls _ ⟨site, seq, dep, ⟨p4.toArray⟩, ⟨p5.toArray⟩⟩ 8 W4 ⟨a, cap, rfl, IsNums.of_row hn⟩ (by dsimp only; omega) (by simpa [ByteArray.size] using l4) (by simpa [ByteArray.size] using l5)
        rw [Hc.out] at hck
        refine hck.mono ?_
        rintro e w5 ⟨rfl, hB5⟩
        replace x0 := keepB x0 hB5
        replace y0 := keepB y0 hB5
        replace z0 := keepB z0 hB5
        replace hn := own_below hn hB5
        have hB := hB2.trans (hB5.mono hB2.size)
        have xlt := ltB x0
        clear hck hB2 hB5
        have d0 := cell_at z0 0
        have d1 := cell_at z0 1
        have d2 := cell_at z0 2
        have d3 := cell_at z0 3
        have d4 := cell_at z0 4
        simp only [List.getElem?_toArray, List.getElem?_cons_zero, List.getElem?_cons_succ] at d0 d1 d2 d3 d4
        have g0 := frozen_at z0 0
        have g1 := frozen_at z0 1
        have g2 := frozen_at z0 2
        have g3 := frozen_at z0 3
        have g4 := frozen_at z0 4
        have c0 := cell_at y0 0
        have c1 := cell_at y0 1
        have c2 := cell_at y0 2
        have c3 := cell_at y0 3
        have c4 := cell_at y0 4
        simp only [List.getElem?_toArray, List.getElem?_cons_zero, List.getElem?_cons_succ] at c0 c1 c2 c3 c4
        have m0 := cell_at x0 0
        have m1 := cell_at x0 1
        have m2 := cell_at x0 2
        have m3 := cell_at x0 3
        have m4 := cell_at x0 4
        simp only [List.getElem?_toArray, List.getElem?_cons_zero, List.getElem?_cons_succ] at m0 m1 m2 m3 m4
        have f0 := frozen_at x0 0
        have f1 := frozen_at x0 1
        have f2 := frozen_at x0 2
        have f3 := frozen_at x0 3
        have f4 := frozen_at x0 4
        have Z0 := hide z0
        have Y0 := hide y0
        have X0 := hide x0
        have Hn := hide hn
        clear z0 y0 x0 hn
        by_cases hc0 : c = 0
        case neg =>
          have e1 := e2.out
          rw [if_neg hc0] at e1
          subst e1
          clear e2
          have hc' : (c != 0) = true := by simp [hc0]
          clear hc0
          go_wp2
          obtain ⟨W', hW', k0, k1, k2, k3, k4, hB'⟩ := parse_zero Z0.out hB (Nat.le_refl _)
          unfold put5 at hW'
          rw [hW']
          exact bodyPost_ret (v := .tuple #[.agg #[.int .i64 0, .int .i64 0, .slice none 0 0, .string ⟨#[]⟩, .string ⟨#[]⟩], .int .i64 c]) (by simp [results, Tryd.f10, go_sem, k0, k1, k2, k3, k4]) rfl ⟨_, rfl, zero_own _ _, hB'⟩
        have e1 := e2.out
        rw [if_pos hc0] at e1
        subst hc0
        subst e1
        clear e2 Hc
        go_wp2_with fail
        replace X0 := hide (show w5.drew.heap[w3.heap.size]? = _ from X0.out)
        replace Y0 := hide (show w5.drew.heap[w1.heap.size]? = _ from Y0.out)
        replace Z0 := hide (show w5.drew.heap[w.heap.size]? = _ from Z0.out)
        replace Hn := hide (own_below Hn.out (Below.refl _ w5).drew)
        replace hB := hB.drew
        have q4 := hide (fun w => clone_calls ⟨p4.toArray⟩ w (by simpa [ByteArray.size] using l4))
        have q5 := hide (fun w => clone_calls ⟨p5.toArray⟩ w (by simpa [ByteArray.size] using l5))
        go_region_with (first | (go_at_call_of 24 (Value.string ⟨p4.toArray⟩); refine (q4.out _).mono ?_; rintro e w' ⟨rfl, hb⟩; replace X0 := hide (keepB X0.out hb); replace Y0 := hide (keepB Y0.out hb); replace Z0 := hide (keepB Z0.out hb); replace Hn := hide (own_below Hn.out hb); replace hB := hB.trans (hb.mono hB.size); have c3 := cell_at Y0.out 3; have c4 := cell_at Y0.out 4; have m3 := cell_at X0.out 3; have m4 := cell_at X0.out 4; simp only [List.getElem?_toArray, List.getElem?_cons_zero, List.getElem?_cons_succ] at c3 c4 m3 m4; have f3 := frozen_at X0.out 3; have f4 := frozen_at X0.out 4) | (go_at_call_of 24 (Value.string ⟨p5.toArray⟩); refine (q5.out _).mono ?_; rintro e w' ⟨rfl, hb⟩; replace X0 := hide (keepB X0.out hb); replace Y0 := hide (keepB Y0.out hb); replace Z0 := hide (keepB Z0.out hb); replace Hn := hide (own_below Hn.out hb); replace hB := hB.trans (hb.mono hB.size); have c3 := cell_at Y0.out 3; have c4 := cell_at Y0.out 4; have m3 := cell_at X0.out 3; have m4 := cell_at X0.out 4; simp only [List.getElem?_toArray, List.getElem?_cons_zero, List.getElem?_cons_succ] at c3 c4 m3 m4; have f3 := frozen_at X0.out 3; have f4 := frozen_at X0.out 4))
        all_goals
          have m0 := cell_at X0.out 0
          have m1 := cell_at X0.out 1
          have m2 := cell_at X0.out 2
          have m3 := cell_at X0.out 3
          have m4 := cell_at X0.out 4
          have d0 := cell_at Z0.out 0
          have d1 := cell_at Z0.out 1
          have d2 := cell_at Z0.out 2
          have d3 := cell_at Z0.out 3
          have d4 := cell_at Z0.out 4
          simp only [List.getElem?_toArray, List.getElem?_cons_zero, List.getElem?_cons_succ] at m0 m1 m2 m3 m4 d0 d1 d2 d3 d4
          have g0 := frozen_at Z0.out 0
          have g1 := frozen_at Z0.out 1
          have g2 := frozen_at Z0.out 2
          have g3 := frozen_at Z0.out 3
          have g4 := frozen_at Z0.out 4
          go_wp2
          have y1 := (Below.heap_setCell (w'.setCell ⟨w3.heap.size, 3, none⟩ (.string ⟨p4.toArray⟩)) ⟨w3.heap.size, 4, none⟩ (.string ⟨p5.toArray⟩) w.heap.size (by simp; omega)).trans ((Below.heap_setCell w' ⟨w3.heap.size, 3, none⟩ (.string ⟨p4.toArray⟩) w.heap.size (by simp; omega)).trans Z0.out)
          have hB1 := (hB.setCell (p := ⟨w3.heap.size, 3, none⟩) (by simp; omega) (.string ⟨p4.toArray⟩)).setCell (p := ⟨w3.heap.size, 4, none⟩) (by simp; omega) (.string ⟨p5.toArray⟩)
          have ho1 : ∀ k, k ≠ w3.heap.size → k ≠ w.heap.size → (put5 ((w'.setCell ⟨w3.heap.size, 3, none⟩ (.string ⟨p4.toArray⟩)).setCell ⟨w3.heap.size, 4, none⟩ (.string ⟨p5.toArray⟩)) w.heap.size (.int .i64 site) (.int .i64 seq) (.slice a dep.length cap) (.string ⟨p4.toArray⟩) (.string ⟨p5.toArray⟩)).heap[k]? = w'.heap[k]? := fun k h1 h2 => by
            rw [put5_other k h2, Below.heap_setCell _ ⟨w3.heap.size, 4, none⟩ _ k h1, Below.heap_setCell _ ⟨w3.heap.size, 3, none⟩ _ k h1]
          have e1 := put5_heap y1 (.int .i64 site) (.int .i64 seq) (.slice a dep.length cap) (.string ⟨p4.toArray⟩) (.string ⟨p5.toArray⟩)
          have hB2 := put5_below hB1 (Nat.le_refl _) (.int .i64 site) (.int .i64 seq) (.slice a dep.length cap) (.string ⟨p4.toArray⟩) (.string ⟨p5.toArray⟩)
          obtain ⟨W9, hW9⟩ : ∃ W9, put5 ((w'.setCell ⟨w3.heap.size, 3, none⟩ (.string ⟨p4.toArray⟩)).setCell ⟨w3.heap.size, 4, none⟩ (.string ⟨p5.toArray⟩)) w.heap.size (.int .i64 site) (.int .i64 seq) (.slice a dep.length cap) (.string ⟨p4.toArray⟩) (.string ⟨p5.toArray⟩) = W9 := ⟨_, rfl⟩
          rw [hW9] at e1 hB2 ho1
          unfold put5 at hW9
          rw [hW9]
          clear hW9 m0 m1 m2 m3 m4 d0 d1 d2 d3 d4 g0 g1 g2 g3 g4 y1 hB1
          have k0 := cell_at e1 0
          have k1 := cell_at e1 1
          have k2 := cell_at e1 2
          have k3 := cell_at e1 3
          have k4 := cell_at e1 4
          simp only [List.getElem?_toArray, List.getElem?_cons_zero, List.getElem?_cons_succ] at k0 k1 k2 k3 k4
          refine bodyPost_ret (v := .tuple #[.agg #[.int .i64 site, .int .i64 seq, .slice a dep.length cap, .string ⟨p4.toArray⟩, .string ⟨p5.toArray⟩], .int .i64 0]) (by simp [results, Tryd.f10, go_sem, k0, k1, k2, k3, k4]) rfl ⟨_, rfl, ⟨_, rfl, ?_⟩, hB2⟩
          exact ownsRow_low (ownsRow_of_heap Hn.out fun k hk => by have h1 := hnew k hk; exact ho1 k (by omega) (by omega)) (by omega)

end Go.Proofs.YthpahkcncjieiaaDoor
