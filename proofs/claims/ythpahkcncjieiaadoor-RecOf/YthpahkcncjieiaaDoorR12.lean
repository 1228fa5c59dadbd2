/- The laws' known(): a record there and back: it answers true in whatever world that has the library's table of powers of ten. Own work; no statement. -/
import Derived.Test.YthpahkcncjieiaaDoorR11
import Derived.Test.YthpahkcncjieiaaDoorW15
set_option linter.unusedSimpArgs false
set_option linter.unusedVariables false
namespace Go.Proofs.YthpahkcncjieiaaDoor
open Go.RowKit Go.Shelf Go.Sort

def knownR : RecD := ⟨1, 3, [2, 2], ⟨#[107, 101, 121]⟩, ⟨#[97, 61, 98]⟩⟩
def knownS : RecD := ⟨0, 9, [], ⟨#[107]⟩, ⟨#[]⟩⟩
set_option maxRecDepth 100000 in
theorem kP1 : parseR [49, 58, 51, 32, 91, 50, 32, 50, 93, 32, 107, 101, 121, 61, 97, 61, 98] = (knownR, 0) := by kernel_rfl
set_option maxRecDepth 100000 in
theorem kP2 : parseR [49, 58, 50, 32, 91, 48, 32, 50, 93, 32, 107, 61, 118] = (zeroR, 13) := by kernel_rfl
set_option maxRecDepth 100000 in
theorem kP3 : parseR [49, 58, 51, 32, 91, 50, 93, 32, 75, 101, 121, 61, 118] = (zeroR, 3) := by kernel_rfl
set_option maxRecDepth 100000 in
theorem kP4 : parseR [49, 58, 51, 32, 91, 50, 93, 32, 107, 32, 118] = (zeroR, 2) := by kernel_rfl
theorem kText : textR knownR = ⟨#[49, 58, 51, 32, 91, 50, 32, 50, 93, 32, 107, 101, 121, 61, 97, 61, 98]⟩ := by
  have h1 : writtenL [2, 2] = 2 := by decide
  have h2 : textL [2, 2] = [91, 50, 32, 50, 93] := by simp [textL, h1, numsTo, itoa_digit]
  have h3 : Lib.itoa 1 = [49] := itoa_digit 1 (by omega) (by omega)
  have h4 : Lib.itoa 3 = [51] := itoa_digit 3 (by omega) (by omega)
  unfold textR knownR
  dsimp only
  rw [h2, h3, h4]
  rfl
theorem kBefore1 : beforeR knownS knownR = true := by decide
theorem kBefore2 : beforeR knownR knownR = false := by decide
theorem kSameR1 : sameR knownR knownR = true := by decide +kernel
theorem kSameR2 : sameR knownR knownS = false := by decide +kernel
theorem kCheckR1 : checkR knownR 1 = 1 := by decide +kernel
theorem kCheckR2 : checkR knownR 2 = 0 := by decide +kernel
theorem kPlaced : placedTo [knownS, knownR, knownS] 0 3 = [(0, knownS), (2, knownS)] := by rfl

set_option maxRecDepth 100000 in
set_option maxHeartbeats 8000000 in
theorem recKnown_calls (w : World) (hp : Pow w) : Calls Tryd.prog 5 #[] w fun e w' => e = .returned (.bool true) ∧ Below w.heap.size w w' := by
  go_enter Tryd.func5, Tryd.ntmps5
  go_wp2_with fail
  have u1 := recParse_calls [49, 58, 51, 32, 91, 50, 32, 50, 93, 32, 107, 101, 121, 61, 97, 61, 98] w (by decide)
  rw [kP1] at u1
  refine u1.mono ?_
  rintro e w1 ⟨v, rfl, ⟨vd, rfl, hown⟩, hB⟩
  obtain ⟨ra, rc, rfl⟩ := ownsRow_slice hown
  have hn : IsNums .i64 w1 (.slice ra 2 rc) [2, 2] := IsNums.of_row hown
  clear u1 hown
  have hP := hp.below hB
  dsimp only [knownR]
  go_wp2_with fail
  have X1 : (w1.alloc (.cells #[.int .i64 1, .int .i64 3, .slice ra 2 rc, .string ⟨#[107, 101, 121]⟩, .string ⟨#[97, 61, 98]⟩] 30)).heap[w1.heap.size]? = some (.cells #[.int .i64 1, .int .i64 3, .slice ra 2 rc, .string ⟨#[107, 101, 121]⟩, .string ⟨#[97, 61, 98]⟩] 30 (0, 0)) := World.alloc_heap_new w1 _
  have hb := box_below w1 (.cells #[.int .i64 1, .int .i64 3, .slice ra 2 rc, .string ⟨#[107, 101, 121]⟩, .string ⟨#[97, 61, 98]⟩] 30)
  replace hn := hn.below hb
  replace hP := hP.below hb
  replace hB := hB.trans (hb.mono hB.size)
  clear hb
  generalize hp1 : w1.heap.size = p1 at *
  generalize hW : w1.alloc (.cells #[.int .i64 1, .int .i64 3, .slice ra 2 rc, .string ⟨#[107, 101, 121]⟩, .string ⟨#[97, 61, 98]⟩] 30) = W1 at *
  clear hW hp1
  have u1 := recParse_calls [49, 58, 50, 32, 91, 48, 32, 50, 93, 32, 107, 61, 118] W1 (by decide)
  rw [kP2] at u1
  refine u1.mono ?_
  rintro e w1 ⟨v, rfl, ⟨vd, rfl, hown⟩, hb⟩
  obtain ⟨va, vc, rfl⟩ := ownsRow_slice hown
  replace X1 := keepB X1 hb
  replace hn := hn.below hb
  replace hP := hP.below hb
  replace hB := hB.trans (hb.mono hB.size)
  clear u1 hown hb
  dsimp only [zeroR, List.length_nil]
  have H1 := hide X1
  have Hn := hide hn
  clear X1 hn
  go_wp2_with fail
  obtain ⟨W2, hW2⟩ : ∃ W2, w1.alloc (.cells #[.int .i64 0, .int .i64 0, .slice va 0 vc, .string ⟨#[]⟩, .string ⟨#[]⟩] 30) = W2 := ⟨_, rfl⟩
  have hb : Below w1.heap.size w1 W2 := by rw [← hW2]; exact box_below w1 _
  rw [hW2]
  have X1 := keepB H1.out hb
  have hn := Hn.out.below hb
  replace hP := hP.below hb
  replace hB := hB.trans (hb.mono hB.size)
  clear hb hW2 H1 Hn
  have u1 := recParse_calls [49, 58, 51, 32, 91, 50, 93, 32, 75, 101, 121, 61, 118] W2 (by decide)
  rw [kP3] at u1
  refine u1.mono ?_
  rintro e w1 ⟨v, rfl, ⟨vd, rfl, hown⟩, hb⟩
  obtain ⟨va, vc, rfl⟩ := ownsRow_slice hown
  replace X1 := keepB X1 hb
  replace hn := hn.below hb
  replace hP := hP.below hb
  replace hB := hB.trans (hb.mono hB.size)
  clear u1 hown hb
  dsimp only [zeroR, List.length_nil]
  have H1 := hide X1
  have Hn := hide hn
  clear X1 hn
  go_wp2_with fail
  obtain ⟨W3, hW2⟩ : ∃ W2, w1.alloc (.cells #[.int .i64 0, .int .i64 0, .slice va 0 vc, .string ⟨#[]⟩, .string ⟨#[]⟩] 30) = W2 := ⟨_, rfl⟩
  have hb : Below w1.heap.size w1 W3 := by rw [← hW2]; exact box_below w1 _
  rw [hW2]
  have X1 := keepB H1.out hb
  have hn := Hn.out.below hb
  replace hP := hP.below hb
  replace hB := hB.trans (hb.mono hB.size)
  clear hb hW2 H1 Hn
  have u1 := recParse_calls [49, 58, 51, 32, 91, 50, 93, 32, 107, 32, 118] W3 (by decide)
  rw [kP4] at u1
  refine u1.mono ?_
  rintro e w1 ⟨v, rfl, ⟨vd, rfl, hown⟩, hb⟩
  obtain ⟨va, vc, rfl⟩ := ownsRow_slice hown
  replace X1 := keepB X1 hb
  replace hn := hn.below hb
  replace hP := hP.below hb
  replace hB := hB.trans (hb.mono hB.size)
  clear u1 hown hb
  dsimp only [zeroR, List.length_nil]
  have H1 := hide X1
  have Hn := hide hn
  have M0 := cell_at X1 0
  have M1 := cell_at X1 1
  have M2 := cell_at X1 2
  have M3 := cell_at X1 3
  have M4 := cell_at X1 4
  simp only [List.getElem?_toArray, List.getElem?_cons_zero, List.getElem?_cons_succ] at M0 M1 M2 M3 M4
  have plt := ltB X1
  clear X1 hn
  go_wp2_with fail
  clear M0 M1 M2 M3 M4 plt
  obtain ⟨Wz, hWz⟩ : ∃ W2, w1.alloc (.cells #[.int .i64 0, .int .i64 0, .slice va 0 vc, .string ⟨#[]⟩, .string ⟨#[]⟩] 30) = W2 := ⟨_, rfl⟩
  have hb1 : Below w1.heap.size w1 Wz := by rw [← hWz]; exact box_below w1 _
  have hzs : Wz.heap.size = w1.heap.size + 1 := by rw [← hWz]; simp
  rw [hWz, ← hzs]
  obtain ⟨Ws, hWs⟩ : ∃ W2, Wz.alloc (.cells #[.int .i64 0, .int .i64 9, .slice none 0 0, .string ⟨#[107]⟩, .string ⟨#[]⟩] 30) = W2 := ⟨_, rfl⟩
  have hb2 : Below Wz.heap.size Wz Ws := by rw [← hWs]; exact box_below Wz _
  have hss : Ws.heap.size = Wz.heap.size + 1 := by rw [← hWs]; simp
  have X9 : Ws.heap[Wz.heap.size]? = some (.cells #[.int .i64 0, .int .i64 9, .slice none 0 0, .string ⟨#[107]⟩, .string ⟨#[]⟩] 30 (0, 0)) := by rw [← hWs]; exact World.alloc_heap_new Wz _
  rw [hWs, ← hss]
  obtain ⟨Wa, hWa⟩ : ∃ W2, Ws.alloc (.cells #[.int .i64 0, .int .i64 9, .slice none 0 0, .string ⟨#[107]⟩, .string ⟨#[]⟩, .int .i64 1, .int .i64 3, .slice ra 2 rc, .string ⟨#[107, 101, 121]⟩, .string ⟨#[97, 61, 98]⟩, .int .i64 0, .int .i64 9, .slice none 0 0, .string ⟨#[107]⟩, .string ⟨#[]⟩] 30) = W2 := ⟨_, rfl⟩
  have hb3 : Below Ws.heap.size Ws Wa := by rw [← hWa]; exact box_below Ws _
  have XA : Wa.heap[Ws.heap.size]? = some (.cells #[.int .i64 0, .int .i64 9, .slice none 0 0, .string ⟨#[107]⟩, .string ⟨#[]⟩, .int .i64 1, .int .i64 3, .slice ra 2 rc, .string ⟨#[107, 101, 121]⟩, .string ⟨#[97, 61, 98]⟩, .int .i64 0, .int .i64 9, .slice none 0 0, .string ⟨#[107]⟩, .string ⟨#[]⟩] 30 (0, 0)) := by rw [← hWa]; exact World.alloc_heap_new Ws _
  rw [hWa]
  have hbz : Below w1.heap.size w1 Wa := (hb1.trans (hb2.mono hb1.size)).trans (hb3.mono (Nat.le_trans hb1.size hb2.size))
  have X1 := keepB H1.out hbz
  have hn := Hn.out.below hbz
  replace X9 := keepB X9 hb3
  replace hP := hP.below hbz
  replace hB := hB.trans (hbz.mono hB.size)
  generalize Wz.heap.size = p9 at *
  generalize Ws.heap.size = pa at *
  clear hbz hb1 hb2 hb3 hWz hWs hWa hzs hss H1 Hn
  have hrecs : IsRecs Wa (.slice (some ⟨pa, 0, none⟩) 3 3) [knownS, knownR, knownS] := by
    refine ⟨_, _, rfl, fun t ht => ⟨pa, 0, rfl, ?_⟩⟩
    have ce := fun j => cell_at XA j
    match t, ht with
    | 0, _ => exact ⟨none, 0, ce 0, ce 1, ce 2, ce 3, ce 4, IsNums.nil _ _ _ _⟩
    | 1, _ => exact ⟨ra, rc, ce 5, ce 6, ce 7, ce 8, ce 9, hn⟩
    | 2, _ => exact ⟨none, 0, ce 10, ce 11, ce 12, ce 13, ce 14, IsNums.nil _ _ _ _⟩
  refine (of_calls _ [knownS, knownR, knownS] 0 Wa hrecs (by decide) (by decide +kernel)).mono ?_
  rintro e w2 ⟨vo, pl, rfl, hof, hplm, hb⟩
  rw [show ([knownS, knownR, knownS] : List RecD).length = 3 from rfl, kPlaced] at hplm
  have hpl2 : pl.length = 2 := by have := congrArg List.length hplm; simpa using this
  have hpli : pl.map (·.i) = [0, 2] := by have := congrArg (List.map Prod.fst) hplm; simpa [List.map_map, Function.comp_def] using this
  have hpld : ∀ p ∈ pl, p.r.dep.length ≤ 17592186044416 := by
    intro p hp'
    have hm : (p.i, p.r) ∈ pl.map (fun p => (p.i, p.r)) := List.mem_map.2 ⟨p, hp', rfl⟩
    rw [hplm] at hm
    simp only [List.mem_cons, Prod.mk.injEq, List.not_mem_nil, or_false] at hm
    rcases hm with ⟨-, e⟩ | ⟨-, e⟩ <;> rw [e] <;> decide
  replace X1 := keepB X1 hb
  replace X9 := keepB X9 hb
  replace hn := hn.below hb
  replace hP := hP.below hb
  replace hB := hB.trans (hb.mono hB.size)
  clear hrecs XA hb hplm
  go_wp2_with fail
  refine (show Calls Tryd.prog 13 #[_, .int .i64 5] w2 _ from rows_calls _ vo pl 5 w2 w2 hof (Below.refl _ _) hpld (by omega) (by decide)).mono ?_
  rintro e w3 ⟨vat, vl, rfl, hat, ⟨la, lc, rfl⟩, hb⟩
  rw [hpli] at hat
  rw [hpl2]
  replace X1 := keepB X1 hb
  replace X9 := keepB X9 hb
  replace hn := hn.below hb
  replace hP := hP.below hb
  replace hB := hB.trans (hb.mono hB.size)
  clear hof hpld hpl2 hpli hb
  have M0 := cell_at X1 0
  have M1 := cell_at X1 1
  have M2 := cell_at X1 2
  have M3 := cell_at X1 3
  have M4 := cell_at X1 4
  simp only [List.getElem?_toArray, List.getElem?_cons_zero, List.getElem?_cons_succ] at M0 M1 M2 M3 M4
  have N0 := cell_at X9 0
  have N1 := cell_at X9 1
  have N2 := cell_at X9 2
  have N3 := cell_at X9 3
  have N4 := cell_at X9 4
  simp only [List.getElem?_toArray, List.getElem?_cons_zero, List.getElem?_cons_succ] at N0 N1 N2 N3 N4
  have H1 := hide X1
  have H9 := hide X9
  have Hn := hide hn
  have Ha := hide hat
  clear X1 X9 hn hat
  go_wp2_with fail
  have X1 := H1.out
  have X9 := H9.out
  have hn := Hn.out
  have hat := Ha.out
  clear H1 H9 Hn Ha M0 M1 M2 M3 M4 N0 N1 N2 N3 N4
  have u := recText_calls _ knownR w3 (show IsRec w3 (.agg #[.int .i64 1, .int .i64 3, .slice ra 2 rc, .string ⟨#[107, 101, 121]⟩, .string ⟨#[97, 61, 98]⟩]) knownR from ⟨ra, rc, rfl, hn⟩) (by decide) (by decide) (by decide) (by decide) (by decide) (small_inR (by decide)) (by decide) (by decide) hP
  rw [kText] at u
  refine u.mono ?_
  rintro e w4 ⟨rfl, hb⟩
  clear u
  replace X1 := keepB X1 hb
  replace X9 := keepB X9 hb
  replace hn := hn.below hb
  replace hat := hat.below hb
  replace hP := hP.below hb
  replace hB := hB.trans (hb.mono hB.size)
  clear hb
  have M0 := cell_at X1 0
  have M1 := cell_at X1 1
  have M2 := cell_at X1 2
  have M3 := cell_at X1 3
  have M4 := cell_at X1 4
  simp only [List.getElem?_toArray, List.getElem?_cons_zero, List.getElem?_cons_succ] at M0 M1 M2 M3 M4
  have N0 := cell_at X9 0
  have N1 := cell_at X9 1
  have N2 := cell_at X9 2
  have N3 := cell_at X9 3
  have N4 := cell_at X9 4
  simp only [List.getElem?_toArray, List.getElem?_cons_zero, List.getElem?_cons_succ] at N0 N1 N2 N3 N4
  have H1 := hide X1
  have H9 := hide X9
  have Hn := hide hn
  have Ha := hide hat
  clear X1 X9 hn hat
  go_wp2_with fail
  have X1 := H1.out
  have X9 := H9.out
  have hn := Hn.out
  have hat := Ha.out
  clear H1 H9 Hn Ha M0 M1 M2 M3 M4 N0 N1 N2 N3 N4
  have u := before_calls _ _ knownS knownR w4 (show IsRec w4 (.agg #[.int .i64 0, .int .i64 9, .slice none 0 0, .string ⟨#[107]⟩, .string ⟨#[]⟩]) knownS from ⟨none, 0, rfl, IsNums.nil _ _ _ _⟩) (show IsRec w4 (.agg #[.int .i64 1, .int .i64 3, .slice ra 2 rc, .string ⟨#[107, 101, 121]⟩, .string ⟨#[97, 61, 98]⟩]) knownR from ⟨ra, rc, rfl, hn⟩)
  rw [kBefore1] at u
  refine u.mono ?_
  rintro e w5 ⟨rfl, hb⟩
  clear u
  replace X1 := keepB X1 hb
  replace X9 := keepB X9 hb
  replace hn := hn.below hb
  replace hat := hat.below hb
  replace hP := hP.below hb
  replace hB := hB.trans (hb.mono hB.size)
  clear hb
  have M0 := cell_at X1 0
  have M1 := cell_at X1 1
  have M2 := cell_at X1 2
  have M3 := cell_at X1 3
  have M4 := cell_at X1 4
  simp only [List.getElem?_toArray, List.getElem?_cons_zero, List.getElem?_cons_succ] at M0 M1 M2 M3 M4
  have N0 := cell_at X9 0
  have N1 := cell_at X9 1
  have N2 := cell_at X9 2
  have N3 := cell_at X9 3
  have N4 := cell_at X9 4
  simp only [List.getElem?_toArray, List.getElem?_cons_zero, List.getElem?_cons_succ] at N0 N1 N2 N3 N4
  have H1 := hide X1
  have H9 := hide X9
  have Hn := hide hn
  have Ha := hide hat
  clear X1 X9 hn hat
  go_wp2_with fail
  have X1 := H1.out
  have X9 := H9.out
  have hn := Hn.out
  have hat := Ha.out
  clear H1 H9 Hn Ha M0 M1 M2 M3 M4 N0 N1 N2 N3 N4
  have u := before_calls _ _ knownR knownR w5 (show IsRec w5 (.agg #[.int .i64 1, .int .i64 3, .slice ra 2 rc, .string ⟨#[107, 101, 121]⟩, .string ⟨#[97, 61, 98]⟩]) knownR from ⟨ra, rc, rfl, hn⟩) (show IsRec w5 (.agg #[.int .i64 1, .int .i64 3, .slice ra 2 rc, .string ⟨#[107, 101, 121]⟩, .string ⟨#[97, 61, 98]⟩]) knownR from ⟨ra, rc, rfl, hn⟩)
  rw [kBefore2] at u
  refine u.mono ?_
  rintro e w6 ⟨rfl, hb⟩
  clear u
  replace X1 := keepB X1 hb
  replace X9 := keepB X9 hb
  replace hn := hn.below hb
  replace hat := hat.below hb
  replace hP := hP.below hb
  replace hB := hB.trans (hb.mono hB.size)
  clear hb
  have M0 := cell_at X1 0
  have M1 := cell_at X1 1
  have M2 := cell_at X1 2
  have M3 := cell_at X1 3
  have M4 := cell_at X1 4
  simp only [List.getElem?_toArray, List.getElem?_cons_zero, List.getElem?_cons_succ] at M0 M1 M2 M3 M4
  have N0 := cell_at X9 0
  have N1 := cell_at X9 1
  have N2 := cell_at X9 2
  have N3 := cell_at X9 3
  have N4 := cell_at X9 4
  simp only [List.getElem?_toArray, List.getElem?_cons_zero, List.getElem?_cons_succ] at N0 N1 N2 N3 N4
  have H1 := hide X1
  have H9 := hide X9
  have Hn := hide hn
  have Ha := hide hat
  clear X1 X9 hn hat
  go_wp2_with fail
  have X1 := H1.out
  have X9 := H9.out
  have hn := Hn.out
  have hat := Ha.out
  clear H1 H9 Hn Ha M0 M1 M2 M3 M4 N0 N1 N2 N3 N4
  have u := recSame_calls _ _ knownR knownR w6 (show IsRec w6 (.agg #[.int .i64 1, .int .i64 3, .slice ra 2 rc, .string ⟨#[107, 101, 121]⟩, .string ⟨#[97, 61, 98]⟩]) knownR from ⟨ra, rc, rfl, hn⟩) (show IsRec w6 (.agg #[.int .i64 1, .int .i64 3, .slice ra 2 rc, .string ⟨#[107, 101, 121]⟩, .string ⟨#[97, 61, 98]⟩]) knownR from ⟨ra, rc, rfl, hn⟩) (by decide) (by decide)
  rw [kSameR1] at u
  refine u.mono ?_
  rintro e w7 ⟨rfl, hb⟩
  clear u
  replace X1 := keepB X1 hb
  replace X9 := keepB X9 hb
  replace hn := hn.below hb
  replace hat := hat.below hb
  replace hP := hP.below hb
  replace hB := hB.trans (hb.mono hB.size)
  clear hb
  have M0 := cell_at X1 0
  have M1 := cell_at X1 1
  have M2 := cell_at X1 2
  have M3 := cell_at X1 3
  have M4 := cell_at X1 4
  simp only [List.getElem?_toArray, List.getElem?_cons_zero, List.getElem?_cons_succ] at M0 M1 M2 M3 M4
  have N0 := cell_at X9 0
  have N1 := cell_at X9 1
  have N2 := cell_at X9 2
  have N3 := cell_at X9 3
  have N4 := cell_at X9 4
  simp only [List.getElem?_toArray, List.getElem?_cons_zero, List.getElem?_cons_succ] at N0 N1 N2 N3 N4
  have H1 := hide X1
  have H9 := hide X9
  have Hn := hide hn
  have Ha := hide hat
  clear X1 X9 hn hat
  go_wp2_with fail
  have X1 := H1.out
  have X9 := H9.out
  have hn := Hn.out
  have hat := Ha.out
  clear H1 H9 Hn Ha M0 M1 M2 M3 M4 N0 N1 N2 N3 N4
  have u := recSame_calls _ _ knownR knownS w7 (show IsRec w7 (.agg #[.int .i64 1, .int .i64 3, .slice ra 2 rc, .string ⟨#[107, 101, 121]⟩, .string ⟨#[97, 61, 98]⟩]) knownR from ⟨ra, rc, rfl, hn⟩) (show IsRec w7 (.agg #[.int .i64 0, .int .i64 9, .slice none 0 0, .string ⟨#[107]⟩, .string ⟨#[]⟩]) knownS from ⟨none, 0, rfl, IsNums.nil _ _ _ _⟩) (by decide) (by decide)
  rw [kSameR2] at u
  refine u.mono ?_
  rintro e w8 ⟨rfl, hb⟩
  clear u
  replace X1 := keepB X1 hb
  replace X9 := keepB X9 hb
  replace hn := hn.below hb
  replace hat := hat.below hb
  replace hP := hP.below hb
  replace hB := hB.trans (hb.mono hB.size)
  clear hb
  have M0 := cell_at X1 0
  have M1 := cell_at X1 1
  have M2 := cell_at X1 2
  have M3 := cell_at X1 3
  have M4 := cell_at X1 4
  simp only [List.getElem?_toArray, List.getElem?_cons_zero, List.getElem?_cons_succ] at M0 M1 M2 M3 M4
  have N0 := cell_at X9 0
  have N1 := cell_at X9 1
  have N2 := cell_at X9 2
  have N3 := cell_at X9 3
  have N4 := cell_at X9 4
  simp only [List.getElem?_toArray, List.getElem?_cons_zero, List.getElem?_cons_succ] at N0 N1 N2 N3 N4
  have H1 := hide X1
  have H9 := hide X9
  have Hn := hide hn
  have Ha := hide hat
  clear X1 X9 hn hat
  go_wp2_with fail
  have X1 := H1.out
  have X9 := H9.out
  have hn := Hn.out
  have hat := Ha.out
  clear H1 H9 Hn Ha M0 M1 M2 M3 M4 N0 N1 N2 N3 N4
  have u := recCheck_calls _ knownR 1 w8 (show IsRec w8 (.agg #[.int .i64 1, .int .i64 3, .slice ra 2 rc, .string ⟨#[107, 101, 121]⟩, .string ⟨#[97, 61, 98]⟩]) knownR from ⟨ra, rc, rfl, hn⟩) (by decide) (by decide) (by decide)
  rw [kCheckR1] at u
  refine u.mono ?_
  rintro e w9 ⟨rfl, hb⟩
  clear u
  replace X1 := keepB X1 hb
  replace X9 := keepB X9 hb
  replace hn := hn.below hb
  replace hat := hat.below hb
  replace hP := hP.below hb
  replace hB := hB.trans (hb.mono hB.size)
  clear hb
  have M0 := cell_at X1 0
  have M1 := cell_at X1 1
  have M2 := cell_at X1 2
  have M3 := cell_at X1 3
  have M4 := cell_at X1 4
  simp only [List.getElem?_toArray, List.getElem?_cons_zero, List.getElem?_cons_succ] at M0 M1 M2 M3 M4
  have N0 := cell_at X9 0
  have N1 := cell_at X9 1
  have N2 := cell_at X9 2
  have N3 := cell_at X9 3
  have N4 := cell_at X9 4
  simp only [List.getElem?_toArray, List.getElem?_cons_zero, List.getElem?_cons_succ] at N0 N1 N2 N3 N4
  have H1 := hide X1
  have H9 := hide X9
  have Hn := hide hn
  have Ha := hide hat
  clear X1 X9 hn hat
  go_wp2_with fail
  have X1 := H1.out
  have X9 := H9.out
  have hn := Hn.out
  have hat := Ha.out
  clear H1 H9 Hn Ha M0 M1 M2 M3 M4 N0 N1 N2 N3 N4
  have u := recCheck_calls _ knownR 2 w9 (show IsRec w9 (.agg #[.int .i64 1, .int .i64 3, .slice ra 2 rc, .string ⟨#[107, 101, 121]⟩, .string ⟨#[97, 61, 98]⟩]) knownR from ⟨ra, rc, rfl, hn⟩) (by decide) (by decide) (by decide)
  rw [kCheckR2] at u
  refine u.mono ?_
  rintro e w10 ⟨rfl, hb⟩
  clear u
  replace X1 := keepB X1 hb
  replace X9 := keepB X9 hb
  replace hn := hn.below hb
  replace hat := hat.below hb
  replace hP := hP.below hb
  replace hB := hB.trans (hb.mono hB.size)
  clear hb
  rcases hat.cases with ⟨hnil, -⟩ | ⟨b, off, cap, rfl, -, hcap, hbl, hcell⟩
  · exact absurd hnil (by simp)
  · have c1 := hcell 1 (by simp)
    simp only [List.getD, List.getElem?_cons_succ, List.getElem?_cons_zero, Option.getD_some, List.length_cons, List.length_nil, Nat.reduceAdd] at c1 hcap ⊢
    clear hat hcell X1 X9 hn hP
    go_wp2_with fail
    go_ret
    exact ⟨rfl, hB⟩

end Go.Proofs.YthpahkcncjieiaaDoor
