/- The walk of MapGrows. Own work; no statement. -/
import Derived.Test.YtndhkbmgpjjepaaDoorM15
set_option linter.unusedSimpArgs false
set_option linter.unusedVariables false
namespace Go.Proofs.YtndhkbmgpjjepaaDoor
open Go.RowKit Go.Shelf

/-- Where the i-th epoch more begins. -/
def fromG (l : List Int) : Nat → Int
  | 0 => 0
  | i + 1 => fromG l i + l.getD i 0 / 8 % 9
/-- The map with i epochs more. -/
def growM (l : List Int) : Nat → MapD
  | 0 => [(0, 3)]
  | i + 1 => growM l i ++ [(fromG l (i + 1), 1 + l.getD i 0 % 8)]

theorem fromG_step (l : List Int) (i : Nat) : fromG l i ≤ fromG l (i + 1) ∧ fromG l (i + 1) ≤ fromG l i + 8 := by
  have h := Int.emod_nonneg (l.getD i 0 / 8) (show (9 : Int) ≠ 0 by decide)
  have h' := Int.emod_lt_of_pos (l.getD i 0 / 8) (show (0 : Int) < 9 by decide)
  simp only [fromG]
  omega
theorem fromG_range (l : List Int) : ∀ i : Nat, 0 ≤ fromG l i ∧ fromG l i ≤ 8 * i
  | 0 => by simp [fromG]
  | i + 1 => by
    have := fromG_range l i
    have := fromG_step l i
    omega
theorem growM_length (l : List Int) : ∀ i, (growM l i).length = i + 1
  | 0 => rfl
  | i + 1 => by simp [growM, growM_length l i]
theorem growM_mem (l : List Int) : ∀ i, ∀ x ∈ growM l i, (0 ≤ x.1 ∧ x.1 ≤ fromG l i) ∧ (1 ≤ x.2 ∧ x.2 ≤ 8)
  | 0 => by
    intro x hx
    simp only [growM, List.mem_singleton] at hx
    subst hx
    simp [fromG]
  | i + 1 => by
    intro x hx
    have h1 := fromG_step l i
    have h2 := fromG_range l (i + 1)
    simp only [growM, List.mem_append, List.mem_singleton] at hx
    rcases hx with hx | rfl
    · have := growM_mem l i x hx
      omega
    · have := Int.emod_nonneg (l.getD i 0) (show (8 : Int) ≠ 0 by decide)
      have := Int.emod_lt_of_pos (l.getD i 0) (show (0 : Int) < 8 by decide)
      dsimp only
      omega
theorem growM_ok (l : List Int) : ∀ i, okMap (growM l i) = true
  | 0 => rfl
  | i + 1 => by
    have := Int.emod_nonneg (l.getD i 0) (show (8 : Int) ≠ 0 by decide)
    have := Int.emod_lt_of_pos (l.getD i 0) (show (0 : Int) < 8 by decide)
    have h1 := fromG_step l i
    exact okMap_snoc (growM_ok l i) (fun x hx => by have := growM_mem l i x hx; omega) (by omega) (by omega)
theorem growM_S (l : List Int) (i : Nat) (hi : i ≤ 12) : MapS (growM l i) := fun x hx => by
  have := growM_mem l i x hx
  have := fromG_range l i
  omega

set_option maxRecDepth 100000 in
set_option maxHeartbeats 4000000 in
theorem mapGrows_main (v : Value) (l : List Int) (w : World) (hv : IsNums .u8 w v l) (hw : ∀ n ∈ l, (Lit.int .u8 n).wf = true) (hp : Pow w) :
    Calls Tryd.prog 6 #[v] w fun e w' => e = .returned (.bool true) ∧ Below w.heap.size w w' := by
  have K := hide (known5_calls w hp)
  have Hv := hide hv
  obtain ⟨a, cap, rfl, hcap, -⟩ := id hv
  have hw' : ∀ t, t < l.length → 0 ≤ l.getD t 0 ∧ l.getD t 0 ≤ 255 := by
    intro t ht
    rw [List.getD_eq_getElem?_getD, List.getElem?_eq_getElem ht]
    exact rng8 (hw _ (List.getElem_mem ht))
  have Hw := hide hw'
  clear hv hw hw'
  by_cases hl : 12 < l.length
  · have hlI : (12 : Int) < (l.length : Int) := by omega
    go_enter Tryd.func6, Tryd.ntmps6
    go_wp2_with (go_at_call 8; refine K.out.mono ?_; rintro e w1 ⟨rfl, hB1⟩)
    go_ret
    exact ⟨rfl, hB1⟩
  · have hlI : ¬ (12 : Int) < (l.length : Int) := by omega
    go_enter Tryd.func6, Tryd.ntmps6
    go_wp2_with (go_at_call 8; refine K.out.mono ?_; rintro e w1 ⟨rfl, hB1⟩)
    obtain ⟨w2, hw2⟩ : ∃ w2, w1.alloc (.cells #[.int .i64 0, .int .i64 3] 48) = w2 := ⟨_, rfl⟩
    have hB2 : Below w.heap.size w w2 := by rw [← hw2]; exact hB1.alloc hB1.size _
    have hb0 : w2.heap[w1.heap.size]? = some (.cells #[.int .i64 0, .int .i64 3] 48 (0, 0)) := by rw [← hw2]; exact World.alloc_heap_new w1 _
    have hm0 : IsMap w2 (.slice (some ⟨w1.heap.size, 0, none⟩) 1 1) [(0, 3)] := ⟨_, 1, rfl, (fun e => by cases e), fun t ht => by
      have e : t = 0 := by simpa using ht
      subst e
      exact ⟨w1.heap.size, 0, rfl, by simpa using cellsAt hb0 0, by simpa using cellsAt hb0 1⟩⟩
    rw [hw2]
    clear hw2 hb0 K
    go_loopw [3, 4, 5] (fun vm f i wr => ∃ k : Nat, i = .int .i64 (k : Int) ∧ k ≤ l.length ∧ f = .int .i64 (fromG l k) ∧ IsMap wr vm (growM l k) ∧ Below w.heap.size w wr) (fun _ _ i _ => l.length - (intOf i).toNat)
    case atStart => exact ⟨0, rfl, Nat.zero_le _, rfl, hm0, hB2⟩
    case round =>
      clear hm0 hB2 hB1
      obtain ⟨k, rfl, hk, rfl, hm, hB⟩ := hrel
      have hmlen : (growM l k).length ≤ 1000 := by rw [growM_length]; omega
      have hfr := fromG_range l k
      have hP : Pow wr := hp.below hB
      obtain ⟨am, cm, rfl⟩ := hm.slice
      by_cases hkl : k < l.length
      · have hklI : (k : Int) < (l.length : Int) := by omega
        obtain ⟨b, o, rfl, hc⟩ : ∃ b o, a = some ⟨b, o, none⟩ ∧ wr.cell? ⟨b, o + k, none⟩ = some (.int .u8 (l.getD k 0)) := by
          obtain ⟨a', cap', e, _, h⟩ := Hv.out.below hB
          cases e
          exact h k hkl
        have hx := Hw.out k hkl
        have hst := fromG_step l k
        have hfs : fromG l (k + 1) = fromG l k + l.getD k 0 / 8 % 9 := rfl
        have hgs : growM l (k + 1) = growM l k ++ [(fromG l (k + 1), 1 + l.getD k 0 % 8)] := rfl
        have hok := growM_ok l k
        have hok1 := growM_ok l (k + 1)
        have hfr1 := fromG_range l (k + 1)
        have hmlen1 : ((growM l (k + 1)).length : Int) = ((growM l k).length : Int) + 1 := by rw [growM_length, growM_length]; omega
        have hmk : ((growM l k).length : Int) = (k : Int) + 1 := by rw [growM_length]; omega
        have hS := hide (growM_S l (k + 1) (by omega))
        generalize l.getD k 0 = x at *
        generalize fromG l k = f at *
        generalize hFe : fromG l (k + 1) = f1 at *
        generalize growM l k = m at *
        generalize hMe : growM l (k + 1) = m1 at *
        have HF := hide hFe
        have HM := hide hMe
        clear hFe hMe
        have hck : checkM m1 = 0 := by rw [checkM, if_pos hok1]
        have A := hide (mapAdd_calls _ m f1 (1 + x % 8) wr hm (by omega))
        have Hf := hide hfs
        unfold addM at A
        rw [← hgs, if_pos hok1, hck, hfs] at A
        have Hgs := hide hgs
        have Hmk := hide hmk
        have Hl1 := hide hmlen1
        clear hgs hmk hmlen1 hck
        go_wp2_with (go_at_call 12; refine A.out.mono ?_; rintro e w3 ⟨v1, rfl, hown1, hB3⟩; have hm1 := OwnsM.map hown1; obtain ⟨a1, c1, rfl⟩ := ownsRow_slice hown1; have hl1 := Hl1.out; have hl1' : ((m1.length : Int) == (m.length : Int) + 1) = true := by rw [beq_iff_eq]; exact hl1)
        rw [← Hf.out]
        have hB1 : Below w.heap.size w w3 := hB.trans (hB3.mono hB.size)
        have hm3 := hm.below hB3
        clear hown1 hB3 hm A hl1 hl1' hc hfs hst
        go_loopw [8] (fun pv wi => ∃ j : Nat, pv = .int .i64 (j : Int) ∧ (j : Int) ≤ f1 ∧ IsMap wi (.slice am m.length cm) m ∧ IsMap wi (.slice a1 m1.length c1) m1 ∧ Below w.heap.size w wi) (fun pv _ => (f1 - intOf pv).toNat)
        case atStart => exact ⟨0, rfl, by omega, hm3, hm1, hB1⟩
        case round =>
          clear hm3 hm1 hB1
          obtain ⟨j, rfl, hj, hm3, hm1, hB1⟩ := hrel
          by_cases hjf : (j : Int) < f1
          · have F1 := hide fun W (h : Below wr.heap.size wr W) => mapFind_calls _ m j W (hm3.below h) (by omega) (by omega)
            have hfe : findM m1 j = findM m j := by rw [Hgs.out]; exact find_snoc hok (Hgs.out ▸ hok1) (by omega) hjf
            have F2 := hide fun W (h : Below wr.heap.size wr W) => mapFind_calls _ m1 j W (hm1.below h) (by have := Hl1.out; omega) (by omega)
            rw [hfe] at F2
            have he0 : (findM m j).2.2 = 0 := by unfold findM; rw [if_pos ⟨by omega, hok⟩]
            generalize findM m j = r at *
            obtain ⟨r1, r2, r3⟩ := r
            dsimp only at *
            subst he0
            clear hfe
            go_wp2_with fail
            refine (F1.out wr (Below.refl _ _)).mono ?_
            rintro e w4 ⟨rfl, hB4⟩
            go_wp2_with fail
            refine (F2.out w4 hB4).mono ?_
            rintro e w5 ⟨rfl, hB5⟩
            have hB6 := hB4.trans (hB5.mono hB4.size)
            clear F1 F2
            go_wp2_with fail
            exact ⟨⟨j + 1, by go_num, by omega, hm3.below hB6, hm1.below hB6, hB1.trans (hB6.mono hB1.size)⟩, by simp [intOf]; omega⟩
          · have hjf' : (j : Int) = f1 := by omega
            have F3 := hide (mapFind_calls _ m1 f1 wr hm1 (by have := Hl1.out; omega) (by omega))
            have hfl : findM m1 f1 = ((k : Int) + 2, 0, 0) := by rw [Hgs.out, find_last (Hgs.out ▸ hok1) (by omega), Hmk.out, Int.add_assoc]; rfl
            rw [hfl] at F3
            go_wp2_with fail
            refine F3.out.mono ?_
            rintro e w4 ⟨rfl, hB4⟩
            clear F3 hfl
            go_wp2_with fail
            exact ⟨⟨k + 1, by go_num, by omega, by rw [HF.out], by rw [HM.out]; exact hm1.below hB4, hB1.trans (hB4.mono hB1.size)⟩, by simp [intOf]; omega⟩
      · have hkl' : k = l.length := by omega
        have hS := growM_S l k (by omega)
        have hok := growM_ok l k
        have hP : Pow wr := hp.below hB
        have T := hide (mapText_calls _ (growM l k) wr hm (by omega) hS.r hP)
        have hlt := spansTo_length hS.r (growM l k).length
        have PP := hide fun W => mapParse_calls (textM (growM l k)) W (by unfold textM; omega)
        rw [parse_textM hS hok] at PP
        generalize textM (growM l k) = tx at *
        clear hS hok
        generalize growM l k = m at *
        go_wp2_with fail
        refine T.out.mono ?_
        rintro e w4 ⟨rfl, hB4⟩
        go_wp2_with fail
        refine (PP.out w4).mono ?_
        rintro e w5 ⟨v5, rfl, hown5, hB5⟩
        obtain ⟨a5, c5, rfl⟩ := ownsRow_slice hown5
        clear T PP
        go_wp2
        go_ret
        exact ⟨by simp, (hB.trans (hB4.mono hB.size)).trans (hB5.mono (hB.trans (hB4.mono hB.size)).size)⟩

end Go.Proofs.YtndhkbmgpjjepaaDoor
