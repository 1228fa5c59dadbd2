/- Own work: the parts R7, S1, S2, S3 of the proof, laid together. -/
import Derived.Test.YtjbjjfndkpcciaaGreatDoorPartLogStripes4
import Derived.Outline
import Derived.Test.YtjbjjfndkpcciaaGreatDoorPartLogStripes3
import Derived.Deep.LoopGhost
import Derived.Lib.RowBridge
import Derived.Shelf.Spec.SlicesInsert
import Derived.Lib.AppendZerosOnto
import Derived.Laws.NewBlocks
import Derived.Maps.AppendAt
/- rec's Parse: a text as a record. Own work; no statement. -/
set_option linter.unusedSimpArgs false
set_option linter.unusedVariables false
namespace Go.Proofs.YtjbjjfndkpcciaaGreatDoor
open Go.RowKit Go.Sort

def zeroR : RecD := ⟨0, 0, [], ⟨#[]⟩, ⟨#[]⟩⟩
/-- A record's parts as the record, and the error's number. -/
def parseP (ok : Bool) (p1 p2 p3 p4 p5 : List UInt8) : RecD × Int :=
  if ok = true ∧ (numL p1).2 = true ∧ (numL p2).2 = true then
    (if (parseL p3).2 = 0 then
      (if checkR ⟨(numL p1).1, (numL p2).1, (parseL p3).1, ⟨p4.toArray⟩, ⟨p5.toArray⟩⟩ 8 = 0 then (⟨(numL p1).1, (numL p2).1, (parseL p3).1, ⟨p4.toArray⟩, ⟨p5.toArray⟩⟩, 0)
        else (zeroR, checkR ⟨(numL p1).1, (numL p2).1, (parseL p3).1, ⟨p4.toArray⟩, ⟨p5.toArray⟩⟩ 8))
      else (zeroR, (parseL p3).2))
    else (zeroR, 2)
/-- A text as a record, and the error's number. -/
def parseR (s : List UInt8) : RecD × Int :=
  match splitR s with
  | some p => parseP true p.site p.seq p.dep p.key p.val
  | none => parseP false [] [] [] [] []

theorem splitR_length {s : List UInt8} {p : Parts} (h : splitR s = some p) : p.site.length ≤ s.length ∧ p.seq.length ≤ s.length ∧ p.dep.length ≤ s.length ∧ p.key.length ≤ s.length ∧ p.val.length ≤ s.length := by
  unfold splitR at h
  dsimp only at h
  have h1 := cutL_length s 58
  generalize cutL s 58 = c1 at *
  have h2 := cutL_length c1.2.1 32
  generalize cutL c1.2.1 32 = c2 at *
  generalize (Lib.indexByte c2.2.1 93 + 1).toNat = e at *
  have h3 := trimPrefix_length (c2.2.1.drop e) [32]
  have h4 := cutL_length (Lib.trimPrefix (c2.2.1.drop e) [32]) 61
  generalize cutL (Lib.trimPrefix (c2.2.1.drop e) [32]) 61 = c3 at *
  split at h
  · have e1 := Option.some.inj h
    subst e1
    simp only [List.length_drop] at h3
    refine ⟨by dsimp only; omega, by dsimp only; omega, by dsimp only; simp; omega, by dsimp only; omega, by dsimp only; omega⟩
  · cases h

theorem parseL_len (s : List UInt8) : (parseL s).1.length ≤ 8 := by
  unfold parseL parseN
  have := stOf_len (splitL (innerL s))
  split
  · split
    · simp
    · split
      · split
        · simp
        · split
          · simp
          · simpa using this
      · simp
  · simp
theorem own_below {W W' : World} {B : Nat} {e : TypeId} {size : Nat} {v : Value} {n : Nat} {xs : List Value} (h : W.ownsRow B e size v n xs) (hB : Below W.heap.size W W') : W'.ownsRow B e size v n xs :=
  ownsRow_of_heap h fun k hk => hB.block k (h.lt k hk).2
theorem keepB {b : Nat} {o : Obj} {W W' : World} (h : W.heap[b]? = some o) (hB : Below W.heap.size W W') : W'.heap[b]? = some o := (hB.block b (Array.getElem?_eq_some_iff.1 h).1).trans h
theorem ltB {b : Nat} {o : Obj} {W : World} (h : W.heap[b]? = some o) : b < W.heap.size := (Array.getElem?_eq_some_iff.1 h).1

/-- What Parse hands back is in its own block: the end of each way that tells an error. -/
theorem parse_zero {W w : World} {b : Nat} {x0 x1 x2 x3 x4 : Value} {t : TypeId} (h : W.heap[b]? = some (.cells #[x0, x1, x2, x3, x4] t (0, 0))) (hB : Below w.heap.size w W) (hb : w.heap.size ≤ b) :
    ∃ W', put5 W b (.int .i64 0) (.int .i64 0) (.slice none 0 0) (.string ⟨#[]⟩) (.string ⟨#[]⟩) = W' ∧ W'.cell? ⟨b, 0, none⟩ = some (.int .i64 0) ∧ W'.cell? ⟨b, 1, none⟩ = some (.int .i64 0) ∧ W'.cell? ⟨b, 2, none⟩ = some (.slice none 0 0) ∧ W'.cell? ⟨b, 3, none⟩ = some (.string ⟨#[]⟩) ∧ W'.cell? ⟨b, 4, none⟩ = some (.string ⟨#[]⟩) ∧ Below w.heap.size w W' := by
  have e := put5_heap h (.int .i64 0) (.int .i64 0) (.slice none 0 0) (.string ⟨#[]⟩) (.string ⟨#[]⟩)
  exact ⟨_, rfl, cell_at e 0, cell_at e 1, cell_at e 2, cell_at e 3, cell_at e 4, put5_below hB hb _ _ _ _ _⟩
theorem zero_own (B : Nat) (w : World) : OwnRec B w (.agg #[.int .i64 0, .int .i64 0, .slice none 0 0, .string ⟨#[]⟩, .string ⟨#[]⟩]) zeroR := ⟨_, rfl, World.ownsRow_nil _ _ _ _⟩

set_option maxHeartbeats 4000000 in
set_option maxRecDepth 100000 in
theorem recParse_calls (s : List UInt8) (w : World) (hs : s.length ≤ 1099511627776) :
    Calls Tryz.prog 213 #[.string ⟨s.toArray⟩] w fun e w' => ∃ v, e = .returned (.tuple #[v, .int .i64 (parseR s).2]) ∧ OwnRec w.heap.size w' v (parseR s).1 ∧ Below w.heap.size w w' := by
  have u1 := split_calls s (w.alloc (.cells #[.int .i64 0, .int .i64 0, .slice none 0 0, .string ⟨#[]⟩, .string ⟨#[]⟩] 36)) hs
  obtain ⟨ok, p1, p2, p3, p4, p5, l1, l2, l3, l4, l5, hv, hok, hpr⟩ : ∃ ok p1 p2 p3 p4 p5, p1.length ≤ 1099511627776 ∧ p2.length ≤ 1099511627776 ∧ p3.length ≤ 1099511627776 ∧ p4.length ≤ 1099511627776 ∧ p5.length ≤ 1099511627776 ∧
      partsV (splitR s) = .agg #[.string ⟨p1.toArray⟩, .string ⟨p2.toArray⟩, .string ⟨p3.toArray⟩, .string ⟨p4.toArray⟩, .string ⟨p5.toArray⟩] ∧ (splitR s).isSome = ok ∧ parseR s = parseP ok p1 p2 p3 p4 p5 := by
    unfold parseR
    cases h : splitR s with
    | none => exact ⟨false, [], [], [], [], [], by simp, by simp, by simp, by simp, by simp, rfl, rfl, rfl⟩
    | some p =>
      obtain ⟨a1, a2, a3, a4, a5⟩ := splitR_length h
      exact ⟨true, p.site, p.seq, p.dep, p.key, p.val, by omega, by omega, by omega, by omega, by omega, rfl, rfl, rfl⟩
  rw [hv, hok] at u1
  rw [hpr]
  have U1 := hide u1
  clear u1 hv hok hpr hs
  obtain ⟨P, hP⟩ : ∃ P, parseP ok p1 p2 p3 p4 p5 = P := ⟨_, rfl⟩
  rw [hP]
  unfold parseP at hP
  have u2 := hide (fun w => numParse_calls ⟨p1.toArray⟩ w (by simpa [ByteArray.size] using l1))
  have u3 := hide (fun w => numParse_calls ⟨p2.toArray⟩ w (by simpa [ByteArray.size] using l2))
  have u4 := hide (fun w => parseO_calls ⟨p3.toArray⟩ w (by simpa [ByteArray.size] using l3))
  rw [show (⟨p1.toArray⟩ : ByteArray).data.toList = p1 from rfl] at u2
  rw [show (⟨p2.toArray⟩ : ByteArray).data.toList = p2 from rfl] at u3
  rw [show (⟨p3.toArray⟩ : ByteArray).data.toList = p3 from rfl] at u4
  generalize numL p1 = n1 at *
  generalize numL p2 = n2 at *
  have hdl := parseL_len p3
  generalize parseL p3 = n3 at *
  obtain ⟨site, b1⟩ := n1
  obtain ⟨seq, b2⟩ := n2
  obtain ⟨dep, e3⟩ := n3
  dsimp only at *
  have HP := hide hP
  clear hP
  have z0 : (w.alloc (.cells #[.int .i64 0, .int .i64 0, .slice none 0 0, .string ⟨#[]⟩, .string ⟨#[]⟩] 36)).heap[w.heap.size]? = some (.cells #[.int .i64 0, .int .i64 0, .slice none 0 0, .string ⟨#[]⟩, .string ⟨#[]⟩] 36 (0, 0)) := World.alloc_heap_new w _
  have HB0 := box_below w (.cells #[.int .i64 0, .int .i64 0, .slice none 0 0, .string ⟨#[]⟩, .string ⟨#[]⟩] 36)
  generalize hW0 : w.alloc (.cells #[.int .i64 0, .int .i64 0, .slice none 0 0, .string ⟨#[]⟩, .string ⟨#[]⟩] 36) = W0 at *
  have HW := hide hW0
  clear hW0
  go_enter Tryz.func213, Tryz.ntmps213
  go_wp2_with fail
  rw [HW.out]
  refine U1.out.mono ?_
  rintro e w1 ⟨rfl, hB1⟩
  replace z0 := keepB z0 hB1
  have hB := HB0.trans (hB1.mono HB0.size)
  clear U1 HW HB0 hB1
  have d0 := cell_at z0 0
  have d1 := cell_at z0 1
  have d2 := cell_at z0 2
  have d3 := cell_at z0 3
  have d4 := cell_at z0 4
  simp only [List.getElem?_toArray, List.getElem?_cons_zero, List.getElem?_cons_succ] at d0 d1 d2 d3 d4
  have g0 := frozen_at z0 0
  have g1 := frozen_at z0 1
  have g2 := frozen_at z0 2
  have g3 := frozen_at z0 3
  have g4 := frozen_at z0 4
  have zlt := ltB z0
  have Z0 := hide z0
  clear z0
  cases ok with
  | false =>
    have e := HP.out
    rw [if_neg (by simp)] at e
    subst e
    clear HP
    go_wp2_with (first | (go_at_call_of 176 (Value.string ⟨p1.toArray⟩); refine (u2.out _).mono ?_; rintro e w' ⟨rfl, rfl⟩) | (go_at_call_of 176 (Value.string ⟨p2.toArray⟩); refine (u3.out _).mono ?_; rintro e w' ⟨rfl, rfl⟩))
    obtain ⟨W', hW', k0, k1, k2, k3, k4, hB'⟩ := parse_zero Z0.out hB (Nat.le_refl _)
    unfold put5 at hW'
    rw [hW']
    have k0 := Lib.cell?_alloc_some (.cells #[.string ⟨p1.toArray⟩, .string ⟨p2.toArray⟩, .string ⟨p3.toArray⟩, .string ⟨p4.toArray⟩, .string ⟨p5.toArray⟩] 249) k0
    have k1 := Lib.cell?_alloc_some (.cells #[.string ⟨p1.toArray⟩, .string ⟨p2.toArray⟩, .string ⟨p3.toArray⟩, .string ⟨p4.toArray⟩, .string ⟨p5.toArray⟩] 249) k1
    have k2 := Lib.cell?_alloc_some (.cells #[.string ⟨p1.toArray⟩, .string ⟨p2.toArray⟩, .string ⟨p3.toArray⟩, .string ⟨p4.toArray⟩, .string ⟨p5.toArray⟩] 249) k2
    have k3 := Lib.cell?_alloc_some (.cells #[.string ⟨p1.toArray⟩, .string ⟨p2.toArray⟩, .string ⟨p3.toArray⟩, .string ⟨p4.toArray⟩, .string ⟨p5.toArray⟩] 249) k3
    have k4 := Lib.cell?_alloc_some (.cells #[.string ⟨p1.toArray⟩, .string ⟨p2.toArray⟩, .string ⟨p3.toArray⟩, .string ⟨p4.toArray⟩, .string ⟨p5.toArray⟩] 249) k4
    exact bodyPost_ret (v := .tuple #[.agg #[.int .i64 0, .int .i64 0, .slice none 0 0, .string ⟨#[]⟩, .string ⟨#[]⟩], .int .i64 2]) (by simp [results, Tryz.f213, go_sem, k0, k1, k2, k3, k4]) rfl ⟨_, rfl, zero_own _ _, hB'.alloc hB'.size _⟩
  | true =>
    cases b1 with
    | false =>
      have e := HP.out
      rw [if_neg (by simp)] at e
      subst e
      clear HP
      go_wp2_with (first | (go_at_call_of 176 (Value.string ⟨p1.toArray⟩); refine (u2.out _).mono ?_; rintro e w' ⟨rfl, rfl⟩) | (go_at_call_of 176 (Value.string ⟨p2.toArray⟩); refine (u3.out _).mono ?_; rintro e w' ⟨rfl, rfl⟩))
      obtain ⟨W', hW', k0, k1, k2, k3, k4, hB'⟩ := parse_zero Z0.out hB (Nat.le_refl _)
      unfold put5 at hW'
      rw [hW']
      have k0 := Lib.cell?_alloc_some (.cells #[.string ⟨p1.toArray⟩, .string ⟨p2.toArray⟩, .string ⟨p3.toArray⟩, .string ⟨p4.toArray⟩, .string ⟨p5.toArray⟩] 249) k0
      have k1 := Lib.cell?_alloc_some (.cells #[.string ⟨p1.toArray⟩, .string ⟨p2.toArray⟩, .string ⟨p3.toArray⟩, .string ⟨p4.toArray⟩, .string ⟨p5.toArray⟩] 249) k1
      have k2 := Lib.cell?_alloc_some (.cells #[.string ⟨p1.toArray⟩, .string ⟨p2.toArray⟩, .string ⟨p3.toArray⟩, .string ⟨p4.toArray⟩, .string ⟨p5.toArray⟩] 249) k2
      have k3 := Lib.cell?_alloc_some (.cells #[.string ⟨p1.toArray⟩, .string ⟨p2.toArray⟩, .string ⟨p3.toArray⟩, .string ⟨p4.toArray⟩, .string ⟨p5.toArray⟩] 249) k3
      have k4 := Lib.cell?_alloc_some (.cells #[.string ⟨p1.toArray⟩, .string ⟨p2.toArray⟩, .string ⟨p3.toArray⟩, .string ⟨p4.toArray⟩, .string ⟨p5.toArray⟩] 249) k4
      exact bodyPost_ret (v := .tuple #[.agg #[.int .i64 0, .int .i64 0, .slice none 0 0, .string ⟨#[]⟩, .string ⟨#[]⟩], .int .i64 2]) (by simp [results, Tryz.f213, go_sem, k0, k1, k2, k3, k4]) rfl ⟨_, rfl, zero_own _ _, hB'.alloc hB'.size _⟩
    | true =>
      cases b2 with
      | false =>
        have e := HP.out
        rw [if_neg (by simp)] at e
        subst e
        clear HP
        go_wp2_with (first | (go_at_call_of 176 (Value.string ⟨p1.toArray⟩); refine (u2.out _).mono ?_; rintro e w' ⟨rfl, rfl⟩) | (go_at_call_of 176 (Value.string ⟨p2.toArray⟩); refine (u3.out _).mono ?_; rintro e w' ⟨rfl, rfl⟩))
        obtain ⟨W', hW', k0, k1, k2, k3, k4, hB'⟩ := parse_zero Z0.out hB (Nat.le_refl _)
        unfold put5 at hW'
        rw [hW']
        have k0 := Lib.cell?_alloc_some (.cells #[.string ⟨p1.toArray⟩, .string ⟨p2.toArray⟩, .string ⟨p3.toArray⟩, .string ⟨p4.toArray⟩, .string ⟨p5.toArray⟩] 249) k0
        have k1 := Lib.cell?_alloc_some (.cells #[.string ⟨p1.toArray⟩, .string ⟨p2.toArray⟩, .string ⟨p3.toArray⟩, .string ⟨p4.toArray⟩, .string ⟨p5.toArray⟩] 249) k1
        have k2 := Lib.cell?_alloc_some (.cells #[.string ⟨p1.toArray⟩, .string ⟨p2.toArray⟩, .string ⟨p3.toArray⟩, .string ⟨p4.toArray⟩, .string ⟨p5.toArray⟩] 249) k2
        have k3 := Lib.cell?_alloc_some (.cells #[.string ⟨p1.toArray⟩, .string ⟨p2.toArray⟩, .string ⟨p3.toArray⟩, .string ⟨p4.toArray⟩, .string ⟨p5.toArray⟩] 249) k3
        have k4 := Lib.cell?_alloc_some (.cells #[.string ⟨p1.toArray⟩, .string ⟨p2.toArray⟩, .string ⟨p3.toArray⟩, .string ⟨p4.toArray⟩, .string ⟨p5.toArray⟩] 249) k4
        exact bodyPost_ret (v := .tuple #[.agg #[.int .i64 0, .int .i64 0, .slice none 0 0, .string ⟨#[]⟩, .string ⟨#[]⟩], .int .i64 2]) (by simp [results, Tryz.f213, go_sem, k0, k1, k2, k3, k4]) rfl ⟨_, rfl, zero_own _ _, hB'.alloc hB'.size _⟩
      | true =>
        have e := HP.out
        rw [if_pos ⟨rfl, rfl, rfl⟩] at e
        clear HP
        replace e := hide e
        go_wp2_with (first | (go_at_call_of 176 (Value.string ⟨p1.toArray⟩); refine (u2.out _).mono ?_; rintro e w' ⟨rfl, rfl⟩) | (go_at_call_of 176 (Value.string ⟨p2.toArray⟩); refine (u3.out _).mono ?_; rintro e w' ⟨rfl, rfl⟩))
        have y0 : (w1.alloc (.cells #[.string ⟨p1.toArray⟩, .string ⟨p2.toArray⟩, .string ⟨p3.toArray⟩, .string ⟨p4.toArray⟩, .string ⟨p5.toArray⟩] 249)).heap[w1.heap.size]? = some (.cells #[.string ⟨p1.toArray⟩, .string ⟨p2.toArray⟩, .string ⟨p3.toArray⟩, .string ⟨p4.toArray⟩, .string ⟨p5.toArray⟩] 249 (0, 0)) := World.alloc_heap_new w1 _
        have z0 := keepB Z0.out (box_below w1 (.cells #[.string ⟨p1.toArray⟩, .string ⟨p2.toArray⟩, .string ⟨p3.toArray⟩, .string ⟨p4.toArray⟩, .string ⟨p5.toArray⟩] 249))
        have hB2 := hB.alloc hB.size (.cells #[.string ⟨p1.toArray⟩, .string ⟨p2.toArray⟩, .string ⟨p3.toArray⟩, .string ⟨p4.toArray⟩, .string ⟨p5.toArray⟩] 249)
        clear Z0 hB d0 d1 d2 d3 d4 g0 g1 g2 g3 g4
        generalize w1.alloc (.cells #[.string ⟨p1.toArray⟩, .string ⟨p2.toArray⟩, .string ⟨p3.toArray⟩, .string ⟨p4.toArray⟩, .string ⟨p5.toArray⟩] 249) = W2 at *
        refine (u4.out _).mono ?_
        rintro e w3 ⟨v, rfl, hn, hB3⟩
        obtain ⟨a, cap, rfl⟩ := ownsRow_slice hn
        have hnew : ∀ k, (Value.slice a dep.length cap).ownBlock = some k → w.heap.size < k ∧ k < w3.heap.size := fun k hk => ⟨by have := (hn.lt k hk).1; have := ltB z0; omega, (hn.lt k hk).2⟩
        have hw2 := ltB z0
        have hw3 := hB3.size
        replace y0 := keepB y0 hB3
        replace z0 := keepB z0 hB3
        have hB := hB2.trans (hB3.mono hB2.size)
        clear u2 u3 u4 hB2 hB3
        have d0 := cell_at z0 0
        have d1 := cell_at z0 1
        have d2 := cell_at z0 2
        have d3 := cell_at z0 3
        have d4 := cell_at z0 4
        simp only [List.getElem?_toArray, List.getElem?_cons_zero, List.getElem?_cons_succ] at d0 d1 d2 d3 d4
        have g0 := frozen_at z0 0
        have g1 := frozen_at z0 1
        have g2 := frozen_at z0 2
        have g3 := frozen_at z0 3
        have g4 := frozen_at z0 4
        have c0 := cell_at y0 0
        have c1 := cell_at y0 1
        have c2 := cell_at y0 2
        have c3 := cell_at y0 3
        have c4 := cell_at y0 4
        simp only [List.getElem?_toArray, List.getElem?_cons_zero, List.getElem?_cons_succ] at c0 c1 c2 c3 c4
        have zlt := ltB z0
        have ylt := ltB y0
        have Z0 := hide z0
        have Y0 := hide y0
        have Hn := hide hn
        clear z0 y0 hn
        by_cases he3 : e3 = 0
        case neg =>
          have e1 := e.out
          rw [if_neg he3] at e1
          subst e1
          clear e
          have he3' : (e3 != 0) = true := by simp [he3]
          clear he3
          go_wp2
          obtain ⟨W', hW', k0, k1, k2, k3, k4, hB'⟩ := parse_zero Z0.out hB (Nat.le_refl _)
          unfold put5 at hW'
          rw [hW']
          exact bodyPost_ret (v := .tuple #[.agg #[.int .i64 0, .int .i64 0, .slice none 0 0, .string ⟨#[]⟩, .string ⟨#[]⟩], .int .i64 e3]) (by simp [results, Tryz.f213, go_sem, k0, k1, k2, k3, k4]) rfl ⟨_, rfl, zero_own _ _, hB'⟩
        have e1 := e.out
        rw [if_pos he3] at e1
        subst he3
        clear e
        obtain ⟨c, hc⟩ : ∃ c, checkR ⟨site, seq, dep, ⟨p4.toArray⟩, ⟨p5.toArray⟩⟩ 8 = c := ⟨_, rfl⟩
        rw [hc] at e1
        have e2 := hide e1
        have Hc := hide hc
        clear e1 hc

        go_wp2_with fail
        have x0 : (w3.alloc (.cells #[.int .i64 site, .int .i64 seq, .slice a dep.length cap, .string ⟨p4.toArray⟩, .string ⟨p5.toArray⟩] 36)).heap[w3.heap.size]? = some (.cells #[.int .i64 site, .int .i64 seq, .slice a dep.length cap, .string ⟨p4.toArray⟩, .string ⟨p5.toArray⟩] 36 (0, 0)) := World.alloc_heap_new w3 _
        have z0 := keepB Z0.out (box_below w3 (.cells #[.int .i64 site, .int .i64 seq, .slice a dep.length cap, .string ⟨p4.toArray⟩, .string ⟨p5.toArray⟩] 36))
        have y0 := keepB Y0.out (box_below w3 (.cells #[.int .i64 site, .int .i64 seq, .slice a dep.length cap, .string ⟨p4.toArray⟩, .string ⟨p5.toArray⟩] 36))
        have hn := own_below Hn.out (box_below w3 (.cells #[.int .i64 site, .int .i64 seq, .slice a dep.length cap, .string ⟨p4.toArray⟩, .string ⟨p5.toArray⟩] 36))
        have hB2 := hB.alloc hB.size (.cells #[.int .i64 site, .int .i64 seq, .slice a dep.length cap, .string ⟨p4.toArray⟩, .string ⟨p5.toArray⟩] 36)
        clear Z0 Y0 Hn hB d0 d1 d2 d3 d4 g0 g1 g2 g3 g4 c0 c1 c2 c3 c4
        generalize w3.alloc (.cells #[.int .i64 site, .int .i64 seq, .slice a dep.length cap, .string ⟨p4.toArray⟩, .string ⟨p5.toArray⟩] 36) = W4 at *
        have hck := recCheck_calls _ ⟨site, seq, dep, ⟨p4.toArray⟩, ⟨p5.toArray⟩⟩ 8 W4 ⟨a, cap, rfl, IsNums.of_row hn⟩ (by dsimp only; omega) (by simpa [ByteArray.size] using l4) (by simpa [ByteArray.size] using l5)
        rw [Hc.out] at hck
        refine hck.mono ?_
        rintro e w5 ⟨rfl, hB5⟩
        replace x0 := keepB x0 hB5
        replace y0 := keepB y0 hB5
        replace z0 := keepB z0 hB5
        replace hn := own_below hn hB5
        have hB := hB2.trans (hB5.mono hB2.size)
        have xlt := ltB x0
        clear hck hB2 hB5
        have d0 := cell_at z0 0
        have d1 := cell_at z0 1
        have d2 := cell_at z0 2
        have d3 := cell_at z0 3
        have d4 := cell_at z0 4
        simp only [List.getElem?_toArray, List.getElem?_cons_zero, List.getElem?_cons_succ] at d0 d1 d2 d3 d4
        have g0 := frozen_at z0 0
        have g1 := frozen_at z0 1
        have g2 := frozen_at z0 2
        have g3 := frozen_at z0 3
        have g4 := frozen_at z0 4
        have c0 := cell_at y0 0
        have c1 := cell_at y0 1
        have c2 := cell_at y0 2
        have c3 := cell_at y0 3
        have c4 := cell_at y0 4
        simp only [List.getElem?_toArray, List.getElem?_cons_zero, List.getElem?_cons_succ] at c0 c1 c2 c3 c4
        have m0 := cell_at x0 0
        have m1 := cell_at x0 1
        have m2 := cell_at x0 2
        have m3 := cell_at x0 3
        have m4 := cell_at x0 4
        simp only [List.getElem?_toArray, List.getElem?_cons_zero, List.getElem?_cons_succ] at m0 m1 m2 m3 m4
        have f0 := frozen_at x0 0
        have f1 := frozen_at x0 1
        have f2 := frozen_at x0 2
        have f3 := frozen_at x0 3
        have f4 := frozen_at x0 4
        have Z0 := hide z0
        have Y0 := hide y0
        have X0 := hide x0
        have Hn := hide hn
        clear z0 y0 x0 hn
        by_cases hc0 : c = 0
        case neg =>
          have e1 := e2.out
          rw [if_neg hc0] at e1
          subst e1
          clear e2
          have hc' : (c != 0) = true := by simp [hc0]
          clear hc0
          go_wp2
          obtain ⟨W', hW', k0, k1, k2, k3, k4, hB'⟩ := parse_zero Z0.out hB (Nat.le_refl _)
          unfold put5 at hW'
          rw [hW']
          exact bodyPost_ret (v := .tuple #[.agg #[.int .i64 0, .int .i64 0, .slice none 0 0, .string ⟨#[]⟩, .string ⟨#[]⟩], .int .i64 c]) (by simp [results, Tryz.f213, go_sem, k0, k1, k2, k3, k4]) rfl ⟨_, rfl, zero_own _ _, hB'⟩
        have e1 := e2.out
        rw [if_pos hc0] at e1
        subst hc0
        subst e1
        clear e2 Hc
        go_wp2_with fail
        replace X0 := hide (show w5.drew.heap[w3.heap.size]? = _ from X0.out)
        replace Y0 := hide (show w5.drew.heap[w1.heap.size]? = _ from Y0.out)
        replace Z0 := hide (show w5.drew.heap[w.heap.size]? = _ from Z0.out)
        replace Hn := hide (own_below Hn.out (Below.refl _ w5).drew)
        replace hB := hB.drew
        have q4 := hide (fun w => clone_calls ⟨p4.toArray⟩ w (by simpa [ByteArray.size] using l4))
        have q5 := hide (fun w => clone_calls ⟨p5.toArray⟩ w (by simpa [ByteArray.size] using l5))
        go_region_with (first | (go_at_call_of 174 (Value.string ⟨p4.toArray⟩); refine (q4.out _).mono ?_; rintro e w' ⟨rfl, hb⟩; replace X0 := hide (keepB X0.out hb); replace Y0 := hide (keepB Y0.out hb); replace Z0 := hide (keepB Z0.out hb); replace Hn := hide (own_below Hn.out hb); replace hB := hB.trans (hb.mono hB.size); have c3 := cell_at Y0.out 3; have c4 := cell_at Y0.out 4; have m3 := cell_at X0.out 3; have m4 := cell_at X0.out 4; simp only [List.getElem?_toArray, List.getElem?_cons_zero, List.getElem?_cons_succ] at c3 c4 m3 m4; have f3 := frozen_at X0.out 3; have f4 := frozen_at X0.out 4) | (go_at_call_of 174 (Value.string ⟨p5.toArray⟩); refine (q5.out _).mono ?_; rintro e w' ⟨rfl, hb⟩; replace X0 := hide (keepB X0.out hb); replace Y0 := hide (keepB Y0.out hb); replace Z0 := hide (keepB Z0.out hb); replace Hn := hide (own_below Hn.out hb); replace hB := hB.trans (hb.mono hB.size); have c3 := cell_at Y0.out 3; have c4 := cell_at Y0.out 4; have m3 := cell_at X0.out 3; have m4 := cell_at X0.out 4; simp only [List.getElem?_toArray, List.getElem?_cons_zero, List.getElem?_cons_succ] at c3 c4 m3 m4; have f3 := frozen_at X0.out 3; have f4 := frozen_at X0.out 4))
        all_goals
          have m0 := cell_at X0.out 0
          have m1 := cell_at X0.out 1
          have m2 := cell_at X0.out 2
          have m3 := cell_at X0.out 3
          have m4 := cell_at X0.out 4
          have d0 := cell_at Z0.out 0
          have d1 := cell_at Z0.out 1
          have d2 := cell_at Z0.out 2
          have d3 := cell_at Z0.out 3
          have d4 := cell_at Z0.out 4
          simp only [List.getElem?_toArray, List.getElem?_cons_zero, List.getElem?_cons_succ] at m0 m1 m2 m3 m4 d0 d1 d2 d3 d4
          have g0 := frozen_at Z0.out 0
          have g1 := frozen_at Z0.out 1
          have g2 := frozen_at Z0.out 2
          have g3 := frozen_at Z0.out 3
          have g4 := frozen_at Z0.out 4
          go_wp2
          have y1 := (Below.heap_setCell (w'.setCell ⟨w3.heap.size, 3, none⟩ (.string ⟨p4.toArray⟩)) ⟨w3.heap.size, 4, none⟩ (.string ⟨p5.toArray⟩) w.heap.size (by simp; omega)).trans ((Below.heap_setCell w' ⟨w3.heap.size, 3, none⟩ (.string ⟨p4.toArray⟩) w.heap.size (by simp; omega)).trans Z0.out)
          have hB1 := (hB.setCell (p := ⟨w3.heap.size, 3, none⟩) (by simp; omega) (.string ⟨p4.toArray⟩)).setCell (p := ⟨w3.heap.size, 4, none⟩) (by simp; omega) (.string ⟨p5.toArray⟩)
          have ho1 : ∀ k, k ≠ w3.heap.size → k ≠ w.heap.size → (put5 ((w'.setCell ⟨w3.heap.size, 3, none⟩ (.string ⟨p4.toArray⟩)).setCell ⟨w3.heap.size, 4, none⟩ (.string ⟨p5.toArray⟩)) w.heap.size (.int .i64 site) (.int .i64 seq) (.slice a dep.length cap) (.string ⟨p4.toArray⟩) (.string ⟨p5.toArray⟩)).heap[k]? = w'.heap[k]? := fun k h1 h2 => by
            rw [put5_other k h2, Below.heap_setCell _ ⟨w3.heap.size, 4, none⟩ _ k h1, Below.heap_setCell _ ⟨w3.heap.size, 3, none⟩ _ k h1]
          have e1 := put5_heap y1 (.int .i64 site) (.int .i64 seq) (.slice a dep.length cap) (.string ⟨p4.toArray⟩) (.string ⟨p5.toArray⟩)
          have hB2 := put5_below hB1 (Nat.le_refl _) (.int .i64 site) (.int .i64 seq) (.slice a dep.length cap) (.string ⟨p4.toArray⟩) (.string ⟨p5.toArray⟩)
          obtain ⟨W9, hW9⟩ : ∃ W9, put5 ((w'.setCell ⟨w3.heap.size, 3, none⟩ (.string ⟨p4.toArray⟩)).setCell ⟨w3.heap.size, 4, none⟩ (.string ⟨p5.toArray⟩)) w.heap.size (.int .i64 site) (.int .i64 seq) (.slice a dep.length cap) (.string ⟨p4.toArray⟩) (.string ⟨p5.toArray⟩) = W9 := ⟨_, rfl⟩
          rw [hW9] at e1 hB2 ho1
          unfold put5 at hW9
          rw [hW9]
          clear hW9 m0 m1 m2 m3 m4 d0 d1 d2 d3 d4 g0 g1 g2 g3 g4 y1 hB1
          have k0 := cell_at e1 0
          have k1 := cell_at e1 1
          have k2 := cell_at e1 2
          have k3 := cell_at e1 3
          have k4 := cell_at e1 4
          simp only [List.getElem?_toArray, List.getElem?_cons_zero, List.getElem?_cons_succ] at k0 k1 k2 k3 k4
          refine bodyPost_ret (v := .tuple #[.agg #[.int .i64 site, .int .i64 seq, .slice a dep.length cap, .string ⟨p4.toArray⟩, .string ⟨p5.toArray⟩], .int .i64 0]) (by simp [results, Tryz.f213, go_sem, k0, k1, k2, k3, k4]) rfl ⟨_, rfl, ⟨_, rfl, ?_⟩, hB2⟩
          exact ownsRow_low (ownsRow_of_heap Hn.out fun k hk => by have h1 := hnew k hk; exact ho1 k (by omega) (by omega)) (by omega)

end Go.Proofs.YtjbjjfndkpcciaaGreatDoor

/- Rows of pointers: slices.Clone, Delete, BinarySearchFunc at them. Own work; no statement. -/
set_option linter.unusedSimpArgs false
set_option linter.unusedVariables false
namespace Go.Proofs.YtjbjjfndkpcciaaGreatDoor
open Go.RowKit Go.Shelf Go.Sort

/-- A pointer to a block's first cell. -/
def ptrV (q : Nat) : Value := .pointer (some ⟨q, 0, none⟩)

theorem Tryz.info177 : (Tryz.prog.info? 177).map (fun i => (i.zero, i.size, i.bytes)) = some (some (.pointer none), 1, 8) := by kernel_rfl

theorem ptr_one {l : List Nat} : ∀ u ∈ l.map ptrV, u.oneCell' = true := by
  intro u hu
  obtain ⟨x, _, rfl⟩ := List.mem_map.1 hu
  rfl

theorem cloneSlots_calls (B : Nat) (v : Value) (qs : List Nat) (w : World) (hr : w.ownsRow B 177 1 v qs.length (qs.map ptrV)) (hl : qs.length ≤ 1099511627776) :
    Calls Tryz.prog 158 #[v] w fun e w' => ∃ v', e = .returned v' ∧ w'.ownsRow w.heap.size 177 1 v' qs.length (qs.map ptrV) ∧ Below w.heap.size w w' := by
  obtain ⟨i0, hi0, hz0, hz1, hz2⟩ := info_parts Tryz.info177
  rcases hr.2 with ⟨rfl, h0⟩ | ⟨g, cap, cur, rfl, hb, hg, hnc, hcm, hcs, ht⟩
  · have e : qs = [] := List.eq_nil_of_length_eq_zero h0
    subst e
    refine (AnyE.slices_Clone_nil Tryz.laysCloneSlot 0 0 w).mono ?_
    rintro e w' ⟨rfl, rfl⟩
    exact ⟨_, rfl, World.ownsRow_nil _ _ _ _, Below.refl _ _⟩
  · refine (AnyE.slices_Clone Tryz.laysCloneSlot i0 (.pointer none) 1 8 hi0 hz0 hz1 hz2 rfl (by decide) (fun w => Tryz.sizeOf177 w) g 0 qs.length cap (qs.map ptrV) w (by simp) (by unfold maxLen; omega) (by omega) ?_ ptr_one).mono ?_
    · intro j u hu
      have hj : j < qs.length := by have := (List.getElem?_eq_some_iff.1 hu).1; simpa using this
      rw [Nat.zero_add, hr.cellAt j (by omega)]
      exact hu
    · rintro e w' ⟨v', rfl, hown, -, hB⟩
      exact ⟨v', rfl, hown, hB⟩

theorem delSlots_calls (B i j cap : Nat) (a : Option Addr) (qs : List Nat) (w : World) (hr : w.ownsRow B 177 1 (.slice a qs.length cap) qs.length (qs.map ptrV)) (hij : i ≤ j) (hj : j ≤ qs.length) :
    Calls Tryz.prog 196 #[.slice a qs.length cap, .int .i64 (i : Int), .int .i64 (j : Int)] w fun e w' => e = .returned (.slice a (qs.take i ++ qs.drop j).length cap) ∧ w'.ownsRow B 177 1 (.slice a (qs.take i ++ qs.drop j).length cap) (qs.take i ++ qs.drop j).length ((qs.take i ++ qs.drop j).map ptrV) ∧ Touch (fun k => (Value.slice a qs.length cap).ownBlock = some k) w w' := by
  obtain ⟨i0, hi0, hz0, hz1, hz2⟩ := info_parts Tryz.info177
  have hlen : (qs.take i ++ qs.drop j).length = qs.length - (j - i) := by simp; omega
  rcases hr.2 with ⟨e, h0⟩ | ⟨g, cap', cur, e, hb, hg, hnc, hcm, hcs, ht⟩
  · have el : qs = [] := List.eq_nil_of_length_eq_zero h0
    subst el
    have en : j = 0 := by simpa using hj
    subst en
    have ei : i = 0 := by omega
    subst ei
    simp only [Value.slice.injEq] at e
    obtain ⟨rfl, -, rfl⟩ := e
    go_enter Tryz.func196, Tryz.ntmps196
    go_wp2
    go_ret
    exact ⟨rfl, World.ownsRow_nil _ _ _ _, Touch.refl _ _⟩
  · simp only [Value.slice.injEq, true_and] at e
    obtain ⟨rfl, rfl⟩ := e
    obtain ⟨d, hd⟩ : ∃ d : Array (Option Addr), d = (qs.map fun q => some (⟨q, 0, none⟩ : Addr)).toArray := ⟨_, rfl⟩
    have hds : d.size = qs.length := by rw [hd]; simp
    have hH : Holds Value.pointer w g 0 d := by
      intro k hk
      rw [hds] at hk
      refine ⟨?_, frozenAt hg _⟩
      rw [Nat.zero_add, hr.cellAt k (by omega), getElem!_pos d k (by omega)]
      simp [hk, hd, ptrV]
    have hc := AnyE.slices_Delete Tryz.laysDelSlot Value.pointer (fun _ => rfl) none (fun w => Tryz.zeroValue177 w) i0 hi0 hz1 g 0 cap i j d w hH (by omega) (by unfold maxLen at hcm; exact hcm) hij (by omega)
    rw [hds] at hc
    refine hc.mono ?_
    rintro e w' ⟨rfl, q, rfl⟩
    have hto : (d.toList.take i ++ d.toList.drop j).map Value.pointer = (qs.take i ++ qs.drop j).map ptrV := by
      rw [hd]
      simp [List.map_take, List.map_drop]
      rfl
    obtain ⟨W', hW'⟩ : ∃ W', putRow Value.pointer (Sort.ahead w q) g 0 (d.toList.take i ++ d.toList.drop j ++ List.replicate (j - i) none).toArray = W' := ⟨_, rfl⟩
    have hWe : W' = (w.drewN q).setCells g 0 ((d.toList.take i ++ d.toList.drop j ++ List.replicate (j - i) none).map Value.pointer) := by
      rw [← hW']
      exact Lib.putRow_eq_setCells _ w g 0 _ _ q hH (by simp; omega)
    rw [hW', hWe]
    refine ⟨by rw [hlen], ⟨by simp, .inr ⟨g, cap, _, rfl, hb, heap_setCells _ 0 (w.drewN q) cur hg, by omega, hcm, by rw [setL_size]; exact hcs, ?_⟩⟩, (touch_new (drewsB w q)).trans (touch_setCells (S := fun k => (Value.slice (some ⟨g, 0, none⟩) qs.length cap).ownBlock = some k) rfl _ _ _)⟩
    rw [List.map_append, hto]
    apply List.ext_getElem?
    intro k
    by_cases hk : k < (qs.take i ++ qs.drop j).length
    · have hkc : k < cur.size := by omega
      rw [List.getElem?_take_of_lt (by omega), Array.getElem?_toList, setL_get _ _ _ _ hkc, if_pos (by simp at hk ⊢; omega), Nat.sub_zero, List.getElem?_append_left (by simpa using hk)]
    · rw [List.getElem?_eq_none (by simp at hk ⊢; omega), List.getElem?_eq_none (by simpa using hk)]

set_option maxHeartbeats 400000 in
theorem find1_calls (q : Nat) (x pos : Int) (w : World) (h : w.cell? ⟨q, 0, none⟩ = some (.int .i64 x)) :
    Calls Tryz.prog 183 #[ptrV q, .int .i64 pos] w fun e w' => e = .returned (.int .i64 (Lib.compareInt x pos)) ∧ ∃ n, w' = w.drewN n := by
  unfold ptrV
  have u1 := hide (fun w => Tryz.cmp_Compare_int x pos w)
  go_enter Tryz.func183, Tryz.ntmps183
  go_wp2_with (go_at_call 184; refine (u1.out _).mono ?_; rintro e w' ⟨rfl, hw'⟩; subst hw')
  go_ret
  exact ⟨rfl, 0, rfl⟩

/-- How many of rising numbers are below x. -/
def belowN (l : List Int) (x : Int) : Nat := l.countP fun y => decide (y < x)

theorem belowN_at : ∀ (l : List Int) (x : Int) (i : Nat), i ≤ l.length → (∀ t, t < i → l.getD t 0 < x) → (∀ t, i ≤ t → t < l.length → x ≤ l.getD t 0) → belowN l x = i
  | [], x, i, hi, _, _ => by simp at hi; simp [belowN, hi]
  | a :: r, x, 0, _, _, h2 => by
    unfold belowN
    rw [List.countP_eq_zero]
    intro y hy
    obtain ⟨t, ht, rfl⟩ := List.getElem_of_mem hy
    have := h2 t (Nat.zero_le _) ht
    rw [List.getD_eq_getElem?_getD, List.getElem?_eq_getElem ht, Option.getD_some] at this
    simp; omega
  | a :: r, x, i + 1, hi, h1, h2 => by
    have ha : a < x := by simpa using h1 0 (Nat.succ_pos _)
    have := belowN_at r x i (by simpa using hi) (fun t ht => by simpa using h1 (t + 1) (by omega)) (fun t h3 h4 => by simpa using h2 (t + 1) (by omega) (by simpa using h4))
    unfold belowN at this ⊢
    rw [List.countP_cons_of_pos (by simpa using ha), this]

/-- Is x at the place where it would stand? -/
def isAt (l : List Int) (x : Int) : Bool := decide (belowN l x < l.length) && decide (l.getD (belowN l x) 0 = x)

theorem compareInt_lt (x y : Int) : Lib.compareInt x y < 0 ↔ x < y := by
  unfold Lib.compareInt
  split
  · simp; omega
  · split <;> omega
theorem compareInt_eq (x y : Int) : Lib.compareInt x y = 0 ↔ x = y := by
  unfold Lib.compareInt
  split
  · simp; omega
  · split <;> omega
theorem compareInt_in (x y : Int) : -1 ≤ Lib.compareInt x y ∧ Lib.compareInt x y ≤ 1 := by
  unfold Lib.compareInt
  split
  · simp
  · split <;> simp

set_option maxHeartbeats 4000000 in
set_option maxRecDepth 100000 in
theorem bsearch_calls (B : Nat) (v : Value) (qs : List Nat) (ps : List Int) (pos : Int) (w : World) (hr : w.ownsRow B 177 1 v qs.length (qs.map ptrV)) (hl : qs.length ≤ 1099511627776) (hps : ps.length = qs.length)
    (hc : ∀ i, i < qs.length → w.cell? ⟨qs.getD i 0, 0, none⟩ = some (.int .i64 (ps.getD i 0))) (hs : ∀ a b, a ≤ b → b < ps.length → ps.getD a 0 ≤ ps.getD b 0) :
    Calls Tryz.prog 182 #[v, .int .i64 pos, .func (.func 183) #[] #[]] w fun e w' => e = .returned (.tuple #[.int .i64 (belowN ps pos : Nat), .bool (isAt ps pos)]) ∧ ∃ n, w' = w.drewN n := by
  obtain ⟨cnt, hcnt⟩ : ∃ cnt, belowN ps pos = cnt := ⟨_, rfl⟩
  obtain ⟨fin, hfin⟩ : ∃ fin, isAt ps pos = fin := ⟨_, rfl⟩
  unfold isAt at hfin
  rw [hcnt, hps] at hfin
  rw [hcnt, show isAt ps pos = fin by unfold isAt; rw [hcnt, hps]; exact hfin]
  obtain ⟨n, hn⟩ : ∃ n, qs.length = n := ⟨_, rfl⟩
  obtain ⟨a, cap, rfl⟩ := ownsRow_slice hr
  have hrc : ∀ j, j < n → ∃ b, a = some ⟨b, 0, none⟩ ∧ w.cell? ⟨b, j, none⟩ = some (ptrV (qs.getD j 0)) := by
    intro j hj
    rcases hr.2 with ⟨e, h0⟩ | ⟨g, cap', cur, e, hb, hg, hnc, hcm, hcs, ht⟩
    · omega
    · simp only [Value.slice.injEq, true_and] at e
      obtain ⟨rfl, rfl⟩ := e
      refine ⟨g, rfl, ?_⟩
      rw [hr.cellAt j (by omega)]
      simp [hn, hj, List.getElem?_eq_getElem (show j < qs.length by omega)]
  rw [hn] at hl hc hps hfin ⊢
  have HC := hide hc
  have HR := hide hrc
  have HS := hide hs
  have CN := hide hcnt
  have FIN := hide hfin
  have HPS := hide hps
  clear hc hrc hs hcnt hfin hr hps
  go_enter Tryz.func182, Tryz.ntmps182
  go_wp2
  go_loopg [9, 10] n (fun kx s9 s10 wr => ∃ lo hi q : Nat, s9 = .int .i64 lo ∧ s10 = .int .i64 hi ∧ lo ≤ hi ∧ hi ≤ n ∧ hi - lo ≤ kx ∧ wr = w.drewN q ∧
    Hid ((∀ t, t < lo → ps.getD t 0 < pos) ∧ (∀ t, hi ≤ t → t < n → pos ≤ ps.getD t 0)))
  case atStart => exact ⟨0, n, 0, rfl, rfl, Nat.zero_le _, Nat.le_refl _, by omega, rfl, (⟨fun t ht => absurd ht (Nat.not_lt_zero _), fun t h1 h2 => by omega⟩ : (∀ t, t < 0 → ps.getD t 0 < pos) ∧ (∀ t, n ≤ t → t < n → pos ≤ ps.getD t 0))⟩
  case round =>
    obtain ⟨lo, hi, q, rfl, rfl, hlh, hin, hg, rfl, I⟩ := hrel
    by_cases hlt : lo < hi
    · obtain ⟨b, eb, cm⟩ := HR.out ((lo + hi) / 2) (by omega)
      subst eb
      have cy := HC.out ((lo + hi) / 2) (by omega)
      obtain ⟨y, hy⟩ : ∃ y, ps.getD ((lo + hi) / 2) 0 = y := ⟨_, rfl⟩
      obtain ⟨qy, hqy⟩ : ∃ qy, qs.getD ((lo + hi) / 2) 0 = qy := ⟨_, rfl⟩
      rw [hy, hqy] at cy
      rw [hqy] at cm
      have Y := hide hy
      clear hy hqy
      have u1 := hide (fun q => find1_calls qy y pos (w.drewN q) cy)
      have hin1 := compareInt_in y pos
      have hlt1 := compareInt_lt y pos
      unfold ptrV at cm u1
      generalize Lib.compareInt y pos = c at *
      have hlt' : (lo : Int) < (hi : Int) := by omega
      have cm' : (w.drewN q).cell? ⟨b, (lo + hi) / 2, none⟩ = some (.pointer (some ⟨qy, 0, none⟩)) := cm
      by_cases hyx : y < pos
      · have hc0 : c < 0 := hlt1.2 hyx
        clear hlt1
        go_wp2_with (go_at_call 183; refine (u1.out _).mono ?_; rintro e w' ⟨rfl, nq, hw'⟩; subst hw')
        go_roundg (hi - ((lo + hi) / 2 + 1))
        case measure => omega
        case rel =>
          have I2 : Hid ((∀ t, t < (lo + hi) / 2 + 1 → ps.getD t 0 < pos) ∧ (∀ t, hi ≤ t → t < n → pos ≤ ps.getD t 0)) := ⟨fun t ht => by have := HS.out t ((lo + hi) / 2) (by omega) (by have := HPS.out; omega); rw [Y.out] at this; omega, I.out.2⟩
          exact ⟨(lo + hi) / 2 + 1, hi, _, by rw [show ((lo : Int) + (hi : Int)) / 2 + 1 = (((lo + hi) / 2 + 1 : Nat) : Int) by omega], rfl, by omega, hin, Nat.le_refl _, rfl, I2⟩
      · have hc0 : ¬ c < 0 := fun h => hyx (hlt1.1 h)
        clear hlt1
        go_wp2_with (go_at_call 183; refine (u1.out _).mono ?_; rintro e w' ⟨rfl, nq, hw'⟩; subst hw')
        go_roundg ((lo + hi) / 2 - lo)
        case measure => omega
        case rel =>
          have I2 : Hid ((∀ t, t < lo → ps.getD t 0 < pos) ∧ (∀ t, (lo + hi) / 2 ≤ t → t < n → pos ≤ ps.getD t 0)) := ⟨I.out.1, fun t ht htn => by have := HS.out ((lo + hi) / 2) t ht (by have := HPS.out; omega); rw [Y.out] at this; omega⟩
          exact ⟨lo, (lo + hi) / 2, _, rfl, by rw [show ((lo : Int) + (hi : Int)) / 2 = (((lo + hi) / 2 : Nat) : Int) by omega], by omega, by omega, Nat.le_refl _, rfl, I2⟩
    · obtain rfl : hi = lo := by omega
      have ecnt : cnt = hi := by
        rw [← CN.out]
        have := HPS.out
        exact belowN_at ps pos hi (by omega) I.out.1 fun t h1 h2 => I.out.2 t h1 (by omega)
      subst ecnt
      have F := FIN.out
      by_cases hn : cnt < n
      · obtain ⟨b, eb, cm⟩ := HR.out cnt hn
        subst eb
        have cy := HC.out cnt hn
        obtain ⟨y, hy⟩ : ∃ y, ps.getD cnt 0 = y := ⟨_, rfl⟩
        obtain ⟨qy, hqy⟩ : ∃ qy, qs.getD cnt 0 = qy := ⟨_, rfl⟩
        rw [hy, hqy] at cy
        rw [hqy] at cm
        rw [hy] at F
        clear hy hqy
        have u1 := hide (fun q => find1_calls qy y pos (w.drewN q) cy)
        have hin1 := compareInt_in y pos
        have heq1 := compareInt_eq y pos
        unfold ptrV at cm u1
        generalize Lib.compareInt y pos = c at *
        have hn' : (cnt : Int) < (n : Int) := by omega
        have cm' : (w.drewN q).cell? ⟨b, cnt, none⟩ = some (.pointer (some ⟨qy, 0, none⟩)) := cm
        by_cases hyx : y = pos
        · have hc0 : c = 0 := heq1.2 hyx
          have e2 : fin = true := by rw [← F]; simp [hn, hyx]
          subst e2
          clear heq1 F FIN
          go_wp2_with (go_at_call 183; refine (u1.out _).mono ?_; rintro e w' ⟨rfl, nq, hw'⟩; subst hw')
          go_ret2
          exact ⟨rfl, _, rfl⟩
        · have hc0 : ¬ c = 0 := fun h => hyx (heq1.1 h)
          have e2 : fin = false := by rw [← F]; simp [hyx]
          subst e2
          clear heq1 F FIN
          go_wp2_with (go_at_call 183; refine (u1.out _).mono ?_; rintro e w' ⟨rfl, nq, hw'⟩; subst hw')
          go_ret2
          exact ⟨by simp [hc0], _, rfl⟩
      · have e2 : fin = false := by rw [← F]; simp [hn]
        subst e2
        have hn' : ¬ (cnt : Int) < (n : Int) := by omega
        clear F FIN
        go_wp2
        go_ret2
        exact ⟨rfl, _, rfl⟩

end Go.Proofs.YtjbjjfndkpcciaaGreatDoor

/- slices.Insert of one pointer into a row of one's own. Own work; no statement. -/
set_option linter.unusedSimpArgs false
set_option linter.unusedVariables false
namespace Go.Proofs.YtjbjjfndkpcciaaGreatDoor
open Go.RowKit Go.Shelf Go.Sort Go.Lib

theorem Tryz.isz177 : (Tryz.prog.info? 177).map (·.size) = some 1 := by kernel_rfl
theorem Tryz.mixed : Tryz.prog.follows .mixedOrders = true := by kernel_rfl

/-- A row with one more at a place. -/
def insL {α : Type} (l : List α) (i : Nat) (x : α) : List α := l.take i ++ x :: l.drop i

theorem insL_length {α : Type} (l : List α) (i : Nat) (x : α) (h : i ≤ l.length) : (insL l i x).length = l.length + 1 := by
  unfold insL
  simp
  omega
theorem insL_end {α : Type} (l : List α) (x : α) : insL l l.length x = l ++ [x] := by simp [insL]

set_option maxHeartbeats 4000000 in
set_option maxRecDepth 100000 in
theorem insEnd_calls (B : Nat) (v : Value) (n : Nat) (cs : List Value) (vb : Nat) (x : Value) (w : World) (hr : w.ownsRow B 177 1 v n cs) (hB : B ≤ w.heap.size) (hn : n ≤ 1048576) (hx : w.cell? ⟨vb, 0, none⟩ = some x) (h1 : x.oneCell' = true) :
    Calls Tryz.prog 195 #[v, .int .i64 (n : Int), .slice (some ⟨vb, 0, none⟩) 1 1] w fun e w' => ∃ v', e = .returned v' ∧ w'.ownsRow B 177 1 v' (n + 1) (cs ++ [x]) ∧ Touch (fun k => v.ownBlock = some k) w w' ∧ (∀ k, v'.ownBlock = some k → v.ownBlock = some k ∨ w.heap.size ≤ k) := by
  obtain ⟨i0, hi0, hz0, hz1, hz2⟩ := info_parts Tryz.info177
  obtain ⟨a, cap, rfl⟩ := ownsRow_slice hr
  have Hr := hide hr
  clear hr
  have hnc : n ≤ cap := by
    rcases Hr.out.2 with ⟨e, h0⟩ | ⟨g, cap', cur, e, _, _, hnc, _⟩
    · omega
    · simp only [Value.slice.injEq, true_and] at e; omega
  have hcm : cap ≤ 9223372036854775807 := by
    rcases Hr.out.2 with ⟨e, h0⟩ | ⟨g, cap', cur, e, _, _, hnc, hcm, _⟩
    · simp only [Value.slice.injEq] at e; omega
    · simp only [Value.slice.injEq, true_and] at e; unfold maxLen at hcm; omega
  have T : ∀ (a : Option Addr) (c : Nat) (v' : Value) (w' : World), w'.ownsRow B 177 1 v' (n + 1) (cs ++ [x]) → w.grownBy w' (Value.slice a n c).ownBlock → (v'.ownBlock = (Value.slice a n c).ownBlock ∨ v'.ownBlock = some w.heap.size) →
      ∃ v'', Ending.returned v' = .returned v'' ∧ w'.ownsRow B 177 1 v'' (n + 1) (cs ++ [x]) ∧ Touch (fun k => (Value.slice a n c).ownBlock = some k) w w' ∧ (∀ k, v''.ownBlock = some k → (Value.slice a n c).ownBlock = some k ∨ w.heap.size ≤ k) := by
    intro a c v' w' hown hgrow hat
    refine ⟨v', rfl, hown, ⟨hgrow.os, hgrow.tape, hgrow.output, hgrow.size, fun k hk hS => hgrow.block k hk fun e => hS e.symm⟩, fun k hk => ?_⟩
    rcases hat with e | e
    · exact .inl (e.symm.trans hk)
    · rw [hk] at e; cases e; exact .inr (Nat.le_refl _)
  have q1 : ∀ j u, ([x] : List Value)[j]? = some u → w.cell? ((⟨vb, 0, none⟩ : Addr).add j) = some u := by
    intro j u hj
    cases j with
    | zero => simp at hj; subst hj; exact hx
    | succ j => simp at hj
  have q2 : ∀ u ∈ ([x] : List Value), u.oneCell' = true := by intro u hu; rw [List.mem_singleton.1 hu]; exact h1
  have HT := hide T
  have Q1 := hide q1
  have Q2 := hide q2
  clear T q1 q2 h1 hx
  by_cases hcn : cap = n
  · subst hcn
    go_enter Tryz.func195, Tryz.ntmps195
    go_wp2_with (at_builtin; refine wpList_append_own_at _ rfl _ _ 142 rfl B 177 i0 (.pointer none) 1 8 Tryz.underlying142 hi0 hz0 hz1 hz2 rfl (by decide) _ cap cs rfl Hr.out ⟨vb, 0, none⟩ 1 1 [x] rfl rfl Q1.out Q2.out (by unfold maxLen; omega) (by omega) hB ?_; intro v' w' hown hgrow hnil hat)
    have F := hide (HT.out _ _ v' w' hown hgrow hat)
    clear hown hgrow hnil hat
    go_ret
    exact F.out
  · go_enter Tryz.func195, Tryz.ntmps195
    go_wp2_with (at_builtin; refine wpList_append_own_at _ rfl _ _ 142 rfl B 177 i0 (.pointer none) 1 8 Tryz.underlying142 hi0 hz0 hz1 hz2 rfl (by decide) _ n cs rfl Hr.out ⟨vb, 0, none⟩ 1 1 [x] rfl rfl Q1.out Q2.out (by unfold maxLen; omega) (by omega) hB ?_; intro v' w' hown hgrow hnil hat)
    have F := hide (HT.out _ _ v' w' hown hgrow hat)
    clear hown hgrow hnil hat
    go_ret
    exact F.out

/-- overlaps at two blocks. -/
theorem overlaps_no (w : World) (b vb : Nat) (x : Value) (cur : Array Value) (n lb cb off : Nat) (hvb : vb ≠ b) (hb : w.heap[b]? = some (.cells cur 177 (0, 0))) (hk : 0 < cur.size) (hv : w.heap[vb]? = some (.cells #[x] 177 (0, 0))) :
    (callFunc 214 #[.slice (some ⟨vb, 0, none⟩) 1 n, .slice (some ⟨b, off, none⟩) lb cb]).run Tryz.prog w = .ok (.value (.bool false)) w := by
  rw [run_callFunc_extern Tryz.func214 (by kernel_rfl) (by kernel_rfl) (by kernel_rfl) (e := Extern.SlicesOverlaps.overlaps #[142, 142] #[4]) (by kernel_rfl),
    Lib.run_overlaps_apart w 142 4 177 Tryz.underlying142 1 Tryz.sizeOf177 ⟨vb, 0, none⟩ ⟨b, off, none⟩ 1 n lb cb hvb 177 177 1 cur.size (by simp [World.shape?, hv]) (by simp [World.shape?, hb]) (by omega) (frozenAt hv _) (frozenAt hv _)]
  rfl

set_option maxHeartbeats 4000000 in
set_option maxRecDepth 100000 in
theorem insRoom_calls (b n c i vb : Nat) (cs : List Value) (cur : Array Value) (x : Value) (w : World) (hi : i < n) (hroom : n + 1 ≤ c) (hc63 : c ≤ 9223372036854775807) (hvb : vb ≠ b) (hcl : cs.length = n)
    (hg : w.heap[b]? = some (.cells cur 177 (0, 0))) (hcs : cur.size = c) (ht : cur.toList.take n = cs) (hv : w.heap[vb]? = some (.cells #[x] 177 (0, 0))) (h1c : ∀ v ∈ cs, v.oneCell' = true) (h1 : x.oneCell' = true) :
    Calls Tryz.prog 195 #[.slice (some ⟨b, 0, none⟩) n c, .int .i64 (i : Int), .slice (some ⟨vb, 0, none⟩) 1 1] w fun e w' => e = .returned (.slice (some ⟨b, 0, none⟩) (n + 1) c) ∧
      w' = (w.drew.setCells b (i + 1) (cs.drop i)).setCells b i [x] := by
  have hz2 : ¬ ((i : Int) = (n : Int)) := by omega
  have hdl : (cs.drop i).length = n - i := by rw [List.length_drop, hcl]
  have hw1 : IntKind.i64.wrap ((i : Int) + 1) = (i : Int) + 1 := by rw [IntKind.wrap_i64]; omega
  have hb1 : (0 : Int) ≤ (i : Int) + 1 := by omega
  have hin : i ≤ n := by omega
  have htn : ((i : Int) + 1).toNat = i + 1 := by omega
  have hb2 : ¬ (c = i + 1) := by omega
  have hb3 : (i : Int) ≤ (n : Int) + 1 := by omega
  have hb4 : ¬ (c = i) := by omega
  have hov : ∀ lb cb, (callFunc 214 #[.slice (some ⟨vb, 0, none⟩) 1 1, .slice (some ⟨b, i + 1, none⟩) lb cb]).run Tryz.prog w = .ok (.value (.bool false)) w := fun lb cb => overlaps_no w b vb x cur 1 lb cb (i + 1) hvb hg (by omega) hv
  have hsz := Tryz.isz177
  have hcell : ∀ j, j < c → (w.cell? ⟨b, j, none⟩).isSome = true := fun j hj => by rw [cellsAt hg j, Array.getElem?_eq_getElem (by omega)]; rfl
  have hcp1 : ∀ ty dc sc, (Builtin.copy_ #[142, 142] ty #[.slice (some ⟨b, i + 1, none⟩) (n - i) dc, .slice (some ⟨b, i, none⟩) (n + 1 - i) sc]).run Tryz.prog w.drew = .ok (goInt (cs.drop i).length) (w.drew.setCells b (i + 1) (cs.drop i)) := fun ty dc sc =>
    run_copy_cells w.drew _ _ ty 177 b (i + 1) (n - i) dc ⟨b, i, none⟩ (n + 1 - i) sc (cs.drop i) Tryz.underlying142 hsz (by rw [hdl]; simp only [Nat.min_def]; split <;> omega)
      (fun j v hj => by
        rw [Addr.add_lit]
        show w.cell? _ = _
        rw [cellsAt hg]
        rw [List.getElem?_drop, ← ht, List.getElem?_take] at hj
        split at hj
        · rw [← Array.getElem?_toList]; exact hj
        · cases hj)
      (fun j hj => hcell _ (by omega)) (fun j hj => frozenAt (W := w.drew) hg _) (fun v hv => h1c v (List.mem_of_mem_drop hv))
  obtain ⟨W1, hW1⟩ : ∃ W1, W1 = w.drew.setCells b (i + 1) (cs.drop i) := ⟨_, rfl⟩
  have hg1 : W1.heap[b]? = some (.cells (setL cur (i + 1) (cs.drop i)) 177 (0, 0)) := by rw [hW1]; exact heap_setCells _ _ w.drew cur hg
  have hv1 : W1.heap[vb]? = some (.cells #[x] 177 (0, 0)) := by
    rw [hW1]
    exact ((touch_setCells (S := fun k => k = b) rfl (cs.drop i) (i + 1) w.drew).block vb (ltAt hv) hvb).trans hv
  have hcp2 : ∀ (W : World), W.heap = W1.heap → ∀ ty dc, (Builtin.copy_ #[142, 142] ty #[.slice (some ⟨b, i, none⟩) (n + 1 - i) dc, .slice (some ⟨vb, 0, none⟩) 1 1]).run Tryz.prog W = .ok (goInt ([x] : List Value).length) (W.setCells b i [x]) := fun W hW ty dc =>
    run_copy_cells W _ _ ty 177 b i (n + 1 - i) dc ⟨vb, 0, none⟩ 1 1 [x] Tryz.underlying142 hsz (by simp only [Nat.min_def, List.length_singleton]; split <;> omega)
      (fun j v hj => by
        rw [Addr.add_lit, Nat.zero_add, cellsAt (W := W) (by rw [hW]; exact hv1)]
        cases j with
        | zero => simpa using hj
        | succ j => simp at hj)
      (fun j hj => by rw [cellsAt (W := W) (by rw [hW]; exact hg1), Array.getElem?_eq_getElem (by rw [setL_size]; simp at hj; omega)]; rfl) (fun j hj => frozenAt (W := W) (by rw [hW]; exact hg1) _) (fun v hv => by rw [List.mem_singleton.1 hv]; exact h1)
  rw [← hW1] at hcp1
  have Hg := hide hg
  have Hv := hide hv
  have Hg1 := hide hg1
  have Hv1 := hide hv1
  have Hcell := hide hcell
  clear hg hv hg1 hv1 hcell ht
  have hmx := Tryz.mixed
  go_enter Tryz.func195, Tryz.ntmps195
  go_wp2_with (simp only [hov])
  go_region_law_o (refine step_copy_runI rfl _ _ 142 142 rfl _ _ (by simp [Act.eval, Act.put]) (by simp [Act.eval, Act.put]) (hcp1 _ _ _) ?_)
  go_wp2_with (at_builtin; refine wpList_copy_runI _ rfl _ _ 142 142 rfl _ _ rfl rfl (hcp2 _ rfl _ _) ?_)
  go_ret
  first | exact ⟨rfl, rfl⟩ | exact ⟨rfl, by rw [hW1]⟩

end Go.Proofs.YtjbjjfndkpcciaaGreatDoor

/- slices.Insert of one pointer where there is no room; all ways of it together. Own work; no statement. -/
set_option linter.unusedSimpArgs false
set_option linter.unusedVariables false
namespace Go.Proofs.YtjbjjfndkpcciaaGreatDoor
open Go.RowKit Go.Shelf Go.Sort Go.Lib

theorem isSome_cells {W : World} {b j : Nat} {c : Array Value} {t : TypeId} {f : Nat × Nat} (h : W.heap[b]? = some (.cells c t f)) (hj : j < c.size) : (W.cell? ⟨b, j, none⟩).isSome = true := by
  rw [cellsAt h j, Array.getElem?_eq_getElem hj]; rfl

set_option maxHeartbeats 4000000 in
set_option maxRecDepth 100000 in
theorem insGrow_calls (b n c i vb : Nat) (cs : List Value) (cur : Array Value) (x : Value) (w : World) (hi : i < n) (hnc : n ≤ c) (hroom : c < n + 1) (hbig : n ≤ 1048576) (hvb : vb ≠ b) (hcl : cs.length = n)
    (hg : w.heap[b]? = some (.cells cur 177 (0, 0))) (hcs : cur.size = c) (ht : cur.toList.take n = cs) (hv : w.heap[vb]? = some (.cells #[x] 177 (0, 0))) (h1c : ∀ v ∈ cs, v.oneCell' = true) (h1 : x.oneCell' = true) :
    Calls Tryz.prog 195 #[.slice (some ⟨b, 0, none⟩) n c, .int .i64 (i : Int), .slice (some ⟨vb, 0, none⟩) 1 1] w fun e w' => ∃ G ROW, e = .returned (.slice (some ⟨w.heap.size, 0, none⟩) (n + 1) G) ∧ n + 1 ≤ G ∧ G ≤ maxLen ∧
      w'.heap[w.heap.size]? = some (.cells (setL (setL ROW i [x]) (i + 1) (cs.drop i)) 177 (0, 0)) ∧ ROW.size = G ∧ ROW.toList.take i = cs.take i ∧ Below w.heap.size w w' := by
  obtain ⟨i0, hi0, hz0, hzs, hzb⟩ := info_parts Tryz.info177
  have hz2 : ¬ ((i : Int) = (n : Int)) := by omega
  have hz3 : (c : Int) < (n : Int) + 1 := by omega
  have hsz := Tryz.isz177
  have hbw : b < w.heap.size := ltAt hg
  have hvw : vb < w.heap.size := ltAt hv
  have hcell : ∀ j v, cs[j]? = some v → w.cell? ⟨b, j, none⟩ = some v := fun j v hj => by
    rw [cellsAt hg]
    rw [← ht, List.getElem?_take] at hj
    split at hj
    · rw [← Array.getElem?_toList]; exact hj
    · cases hj
  have hkk : (n : Int) + 1 - (i : Int) = ((n + 1 - i : Nat) : Int) := by omega
  have hik : i + (n + 1 - i) = n + 1 := by omega
  have hold : (Builtin.firstCells i0.size i (.slice (some ⟨b, 0, none⟩) i c)).run Tryz.prog w.drew = .ok (cs.take i).toArray w.drew := by
    rw [hzs]
    exact run_firstCells_some w.drew 1 i ⟨b, 0, none⟩ i c (cs.take i) (by rw [List.length_take]; omega) (fun j v hj => by
      rw [Addr.add_lit, Nat.zero_add]
      rw [List.getElem?_take] at hj
      split at hj
      · exact hcell j v hj
      · cases hj)
  have hrz : ∀ ty, (Builtin.append_ #[142, 3] ty #[.slice (some ⟨b, 0, none⟩) i c, .int .i64 ((n : Int) + 1 - (i : Int))]).run Tryz.prog w =
      .ok (.slice (some ⟨w.heap.size, 0, none⟩) (n + 1) (grownCap w (n + 1) c 177)) (w.drew.alloc (.cells ((cs.take i).toArray ++ Builtin.zeroCells (Value.pointer none).cells (n + 1 - i) ++ Builtin.zeroCells (Value.pointer none).cells (grownCap w (n + 1) c 177 - (n + 1))) 177)) := fun ty => by
    have h := Lib.run_append_grow_zeros w 142 3 ty 177 i0 _ .i64 .i64 Tryz.underlying142 Tryz.underlying3 hi0 hz0 (some ⟨b, 0, none⟩) i c (cs.take i) hold (n + 1 - i) (by omega) (by omega) (by omega) (by omega) (by rw [hzb]; omega) (by rw [hzb, hik]; exact growslice_fits hroom (by omega))
    rw [hik] at h
    rw [hkk]
    exact h
  obtain ⟨G, hG⟩ : ∃ G, G = grownCap w (n + 1) c 177 := ⟨_, rfl⟩
  obtain ⟨ROW, hROW⟩ : ∃ ROW : Array Value, ROW = (cs.take i).toArray ++ Builtin.zeroCells (Value.pointer none).cells (n + 1 - i) ++ Builtin.zeroCells (Value.pointer none).cells (G - (n + 1)) := ⟨_, rfl⟩
  rw [← hG] at hrz
  rw [← hROW] at hrz
  have hGn : n + 1 ≤ G := by rw [hG]; exact grownCap_ge w _ _ _
  have hGm : G ≤ maxLen := by rw [hG]; exact grownCap_le_maxLen w (n + 1) c 177 (by unfold maxLen; omega)
  have hG63 : G ≤ 9223372036854775807 := by unfold maxLen at hGm; omega
  have hRl : ROW.size = G := by
    rw [hROW]
    simp [Builtin.zeroCells, Value.cells]
    omega
  have hRt : ROW.toList.take i = cs.take i := by
    rw [hROW]
    simp
    rw [List.take_append_of_le_length (by simp; omega), List.take_take, Nat.min_self]
  obtain ⟨W1, hW1⟩ : ∃ W1, W1 = w.drew.alloc (.cells ROW 177) := ⟨_, rfl⟩
  rw [← hW1] at hrz
  have hb1 : W1.heap[w.heap.size]? = some (.cells ROW 177 (0, 0)) := by rw [hW1]; exact World.alloc_heap_new w.drew _
  have hB1 : Below w.heap.size w W1 := by rw [hW1]; exact (below_draws (B := w.heap.size) (w := w) 1).trans ((Below.refl _ w.drew).alloc (Nat.le_refl _) _)
  have hcpA : ∀ (W : World), W.heap = W1.heap → ∀ ty dc, (Builtin.copy_ #[142, 142] ty #[.slice (some ⟨w.heap.size, i, none⟩) (n + 1 - i) dc, .slice (some ⟨vb, 0, none⟩) 1 1]).run Tryz.prog W = .ok (goInt ([x] : List Value).length) (W.setCells w.heap.size i [x]) := fun W hW ty dc =>
    run_copy_cells W _ _ ty 177 w.heap.size i (n + 1 - i) dc ⟨vb, 0, none⟩ 1 1 [x] Tryz.underlying142 hsz (by simp only [Nat.min_def, List.length_singleton]; split <;> omega)
      (fun j v hj => by
        rw [Addr.add_lit, Nat.zero_add, cellsAt (W := W) (by rw [hW]; exact (hB1.block vb hvw).trans hv)]
        cases j with
        | zero => simpa using hj
        | succ j => simp at hj)
      (fun j hj => isSome_cells (W := W) (by rw [hW]; exact hb1) (by simp at hj; omega)) (fun j hj => frozenAt (W := W) (by rw [hW]; exact hb1) _) (fun v hv => by rw [List.mem_singleton.1 hv]; exact h1)
  have hGi : ¬ (G = i) := by omega
  have hGim : ¬ (G = i + 1) := by omega
  have hci : ¬ (c = i) := by omega
  have hbN : b ≠ w.heap.size := by omega
  have hdl : (cs.drop i).length = n - i := by rw [List.length_drop, hcl]
  obtain ⟨W2, hW2⟩ : ∃ W2, W2 = W1.setCells w.heap.size i [x] := ⟨_, rfl⟩
  have hb2 : W2.heap[w.heap.size]? = some (.cells (setL ROW i [x]) 177 (0, 0)) := by rw [hW2]; exact heap_setCells _ _ _ _ hb1
  have hB2 : Below w.heap.size w W2 := by
    rw [hW2]
    exact hB1.trans ((touch_setCells (S := fun k => k = w.heap.size) rfl [x] i W1).below hB1.size fun k _ h => by omega)
  have hcpB : ∀ (W : World), W.heap = W2.heap → ∀ ty dc sc, (Builtin.copy_ #[142, 142] ty #[.slice (some ⟨w.heap.size, i + 1, none⟩) (n - i) dc, .slice (some ⟨b, i, none⟩) (n - i) sc]).run Tryz.prog W = .ok (goInt (cs.drop i).length) (W.setCells w.heap.size (i + 1) (cs.drop i)) := fun W hW ty dc sc =>
    run_copy_cells W _ _ ty 177 w.heap.size (i + 1) (n - i) dc ⟨b, i, none⟩ (n - i) sc (cs.drop i) Tryz.underlying142 hsz (by rw [hdl]; simp only [Nat.min_def]; split <;> omega)
      (fun j v hj => by
        rw [Addr.add_lit, cellsAt (W := W) (by rw [hW]; exact (hB2.block b hbw).trans hg), ← cellsAt hg]
        exact hcell (i + j) v (by rwa [List.getElem?_drop] at hj))
      (fun j hj => isSome_cells (W := W) (by rw [hW]; exact hb2) (by rw [setL_size]; omega))
      (fun j hj => frozenAt (W := W) (by rw [hW]; exact hb2) _) (fun v hv => h1c v (List.mem_of_mem_drop hv))
  have hfin : ∀ W : World, W.heap = W2.heap → W.os = w.os → W.tape = w.tape → W.output = w.output → (W.setCells w.heap.size (i + 1) (cs.drop i)).heap[w.heap.size]? = some (.cells (setL (setL ROW i [x]) (i + 1) (cs.drop i)) 177 (0, 0)) ∧ Below w.heap.size w (W.setCells w.heap.size (i + 1) (cs.drop i)) := fun W hW h1 h2 h3 => by
    refine ⟨heap_setCells _ _ _ _ (by rw [hW]; exact hb2), ?_⟩
    have hBW : Below w.heap.size w W := ⟨h1, h2, h3, by rw [hW]; exact hB2.size, fun k hk => by rw [hW]; exact hB2.block k hk⟩
    exact hBW.trans ((touch_setCells (S := fun k => k = w.heap.size) rfl _ _ W).below hBW.size fun k _ h => by omega)
  have hE : ((w.alloc (.cells ROW 177)).drew).heap = W1.heap := by rw [hW1]; rfl
  have hF : (((w.alloc (.cells ROW 177)).drew.setCells w.heap.size i [x]).drew).heap = W2.heap := by rw [hW2, hW1]; rfl
  have HF := hide (hfin ((((w.alloc (.cells ROW 177)).drew.setCells w.heap.size i [x]).drew)) hF rfl rfl rfl)
  have hw1 : IntKind.i64.wrap ((i : Int) + 1) = (i : Int) + 1 := by rw [IntKind.wrap_i64]; omega
  have hb1' : (0 : Int) ≤ (i : Int) + 1 := by omega
  have hin : i ≤ n := by omega
  have htn : ((i : Int) + 1).toNat = i + 1 := by omega
  have hb3 : (i : Int) ≤ (n : Int) := by omega
  have HR := hide hRl
  have HT := hide hRt
  subst hW1
  clear hkk hik hold hROW hG hRl hRt hb1 hB1 hb2 hB2 hfin hg hv hcell ht
  have hmx := Tryz.mixed
  go_enter Tryz.func195, Tryz.ntmps195
  go_wp2_with (first
    | (at_builtin; refine Lib.wpList_append_run _ rfl _ _ _ _ rfl _ _ rfl rfl _ _ (hrz _) ?_)
    | (at_builtin; refine wpList_copy_runI _ rfl _ _ 142 142 rfl _ _ rfl rfl (hcpA _ hE _ _) ?_))
  go_region_law_o (refine step_copy_runI rfl _ _ 142 142 rfl (.slice (some ⟨w.heap.size, i + 1, none⟩) (n - i) (G - (i + 1))) (.slice (some ⟨b, i, none⟩) (n - i) (c - i)) (by simp [Act.eval, Act.put]) (by simp [Act.eval, Act.put]) (hcpB _ hF 3 (G - (i + 1)) (c - i)) ?_)
  go_wp2
  go_ret
  exact ⟨G, ROW, rfl, hGn, hGm, HF.out.1, HR.out, HT.out, HF.out.2⟩

theorem row_of_parts {W : World} {B g n cap : Nat} {cur : Array Value} {e : TypeId} {xs : List Value} (hB : B ≤ g) (hg : W.heap[g]? = some (.cells cur e (0, 0))) (hn : n ≤ cap) (hc : cap ≤ maxLen) (hs : cur.size = cap) (hl : xs.length = n) (hx : ∀ k, k < n → cur[k]? = xs[k]?) :
    W.ownsRow B e 1 (.slice (some ⟨g, 0, none⟩) n cap) n xs := by
  refine ⟨by omega, .inr ⟨g, cap, cur, rfl, hB, hg, hn, hc, by omega, ?_⟩⟩
  apply List.ext_getElem?
  intro k
  by_cases hk : k < n
  · rw [List.getElem?_take_of_lt (by omega), Array.getElem?_toList]
    exact hx k hk
  · rw [List.getElem?_eq_none (by simp; omega), List.getElem?_eq_none (by omega)]

/-- What a row is with one more in it, cell by cell. -/
theorem insL_get {α : Type} (l : List α) (i : Nat) (x : α) (hi : i ≤ l.length) (k : Nat) : (insL l i x)[k]? = if k < i then l[k]? else if k = i then some x else l[k - 1]? := by
  unfold insL
  by_cases h : k < i
  · rw [if_pos h, List.getElem?_append_left (by simp; omega), List.getElem?_take_of_lt h]
  · rw [if_neg h, List.getElem?_append_right (by simp; omega), List.length_take, Nat.min_eq_left hi]
    by_cases h2 : k = i
    · subst h2
      rw [if_pos rfl, Nat.sub_self]
      rfl
    · obtain ⟨j, rfl⟩ : ∃ j, k = i + 1 + j := ⟨k - (i + 1), by omega⟩
      rw [if_neg h2, show i + 1 + j - i = j + 1 by omega, List.getElem?_cons_succ, List.getElem?_drop, show i + 1 + j - 1 = i + j by omega]

theorem insL_map {α β : Type} (f : α → β) (l : List α) (i : Nat) (x : α) : (insL l i x).map f = insL (l.map f) i (f x) := by
  simp [insL, List.map_take, List.map_drop]

theorem insSlot_calls (B : Nat) (v : Value) (qs : List Nat) (i vb q : Nat) (w : World) (hr : w.ownsRow B 177 1 v qs.length (qs.map ptrV)) (hB : B ≤ w.heap.size) (hn : qs.length ≤ 1048576) (hi : i ≤ qs.length) (hv : w.heap[vb]? = some (.cells #[ptrV q] 177 (0, 0))) (hvb : v.ownBlock ≠ some vb) :
    Calls Tryz.prog 195 #[v, .int .i64 (i : Int), .slice (some ⟨vb, 0, none⟩) 1 1] w fun e w' => ∃ v', e = .returned v' ∧ w'.ownsRow B 177 1 v' (insL qs i q).length ((insL qs i q).map ptrV) ∧ Touch (fun k => v.ownBlock = some k) w w' ∧ (∀ k, v'.ownBlock = some k → v.ownBlock = some k ∨ w.heap.size ≤ k) := by
  have hlen := insL_length qs i q hi
  by_cases hin : i = qs.length
  · subst hin
    have hx : w.cell? ⟨vb, 0, none⟩ = some (ptrV q) := by rw [cellsAt hv]; rfl
    refine (insEnd_calls B v qs.length (qs.map ptrV) vb (ptrV q) w hr hB hn hx rfl).mono ?_
    rintro e w' ⟨v', rfl, h1, h2, h3⟩
    refine ⟨v', rfl, ?_, h2, h3⟩
    rw [hlen, insL_end]
    simpa using h1
  · have hlt : i < qs.length := by omega
    rcases hr.2 with ⟨e, h0⟩ | ⟨b, c, cur, rfl, hb, hg, hnc, hcm, hcs, ht⟩
    · omega
    · have hvb' : vb ≠ b := fun e => hvb (by rw [e]; rfl)
      rw [Nat.mul_one] at ht hcs
      have hget : ∀ k, k < qs.length → cur[k]? = (qs.map ptrV)[k]? := fun k hk => by
        rw [← ht, List.getElem?_take_of_lt hk, Array.getElem?_toList]
      by_cases hroom : qs.length + 1 ≤ c
      · refine (insRoom_calls b qs.length c i vb (qs.map ptrV) cur (ptrV q) w hlt hroom (by unfold maxLen at hcm; exact hcm) hvb' (by simp) hg hcs ht hv ptr_one rfl).mono ?_
        rintro e w' ⟨rfl, rfl⟩
        refine ⟨_, rfl, ?_, ?_, fun k hk => .inl hk⟩
        · rw [hlen, insL_map]
          refine row_of_parts hb (heap_setCells _ _ _ _ (heap_setCells _ _ w.drew cur hg)) hroom hcm (by rw [setL_size, setL_size]; exact hcs) (by rw [insL_length _ _ _ (by simpa using hi)]; simp) fun k hk => ?_
          rw [insL_get _ _ _ (by simpa using hi), setL_get _ _ _ _ (by rw [setL_size]; omega)]
          by_cases h1 : k < i
          · rw [if_neg (by omega), if_pos h1, setL_get _ _ _ _ (by omega), if_neg (by omega)]
            exact hget k (by omega)
          · rw [if_neg h1]
            by_cases h2 : k = i
            · subst h2
              rw [if_pos (by simp), if_pos rfl, Nat.sub_self]
              rfl
            · rw [if_neg (by simp; omega), if_neg h2, setL_get _ _ _ _ (by omega), if_pos (by simp; omega), List.getElem?_drop]
              rw [show i + (k - (i + 1)) = k - 1 by omega]
        · exact ((touch_new (drewsB w 1)).trans (touch_setCells (S := fun k => (Value.slice (some ⟨b, 0, none⟩) qs.length c).ownBlock = some k) rfl _ _ _)).trans (touch_setCells (S := fun k => (Value.slice (some ⟨b, 0, none⟩) qs.length c).ownBlock = some k) rfl _ _ _)
      · refine (insGrow_calls b qs.length c i vb (qs.map ptrV) cur (ptrV q) w hlt hnc (by omega) hn hvb' (by simp) hg hcs ht hv ptr_one rfl).mono ?_
        rintro e w' ⟨G, ROW, rfl, hG, hGm, hg', hRs, hRt, hB'⟩
        refine ⟨_, rfl, ?_, touch_new hB', fun k hk => .inr (by cases hk; exact Nat.le_refl _)⟩
        rw [hlen, insL_map]
        refine row_of_parts hB hg' hG hGm (by rw [setL_size, setL_size]; exact hRs) (by rw [insL_length _ _ _ (by simpa using hi)]; simp) fun k hk => ?_
        rw [insL_get _ _ _ (by simpa using hi), setL_get _ _ _ _ (by rw [setL_size]; omega)]
        by_cases h1 : k < i
        · rw [if_neg (by omega), if_pos h1, setL_get _ _ _ _ (by omega), if_neg (by omega), ← Array.getElem?_toList, ← List.getElem?_take_of_lt h1, hRt, List.getElem?_take_of_lt h1]
        · rw [if_neg h1]
          by_cases h2 : k = i
          · subst h2
            rw [if_neg (by omega), if_pos rfl, setL_get _ _ _ _ (by omega), if_pos (by simp), Nat.sub_self]
            rfl
          · rw [if_pos (by simp; omega), if_neg h2, List.getElem?_drop]
            rw [show i + (k - (i + 1)) = k - 1 by omega]

end Go.Proofs.YtjbjjfndkpcciaaGreatDoor
