/- Own work: the parts Frame, FrameM, WMapAny of the proof, laid together. -/
import Derived.Test.YtndhkbmgpjjepaaDoorPartMapAny5
import Derived.Test.YtndhkbmgpjjepaaDoorPartMapAny8
import Derived.Test.YtndhkbmgpjjepaaDoorCards
import Derived.Test.YtndhkbmgpjjepaaDoorTie
import Derived.ProofKit
import Derived.OpenShut
import Derived.ShutString
import Derived.ChangeOld
import Derived.Deep.DeepHandedRow
import Derived.Lib.LaidTab
import Derived.Test.YtndhkbmgpjjepaaDoorPartMapAny6
import Derived.Deep.Fields
import Derived.Deep.Slices
import Derived.Lib.SmallJoins
import Derived.Test.YtndhkbmgpjjepaaDoorPartMapAny7
/- What the proofs of the statements share: the library's table out of the row's condition, a world for the witness, slices that came in. Own work; no statement. -/
set_option linter.unusedSimpArgs false
set_option linter.unusedVariables false
namespace Go.Proofs.YtndhkbmgpjjepaaDoor
open Go.ChangeShapes Go.WideShapes Go.ChangeAt Go.RowKit

theorem gPow : Tryd.prog.globalNamed "internal/strconv.uint64pow10" = some 0 := by kernel_rfl
theorem tPow : (Tryd.prog.globals[0]?).map (·.type) = some 101 := by kernel_rfl
theorem cPow : Tryd.prog.cellsOf 101 = 20 := by kernel_rfl
theorem cU64 : Tryd.prog.cellsOf 85 = 1 := by kernel_rfl

/-- What all rows of this seat list. -/
def laidAll : List (String × DataW Unit) := [("math/bits.deBruijn32tab", Rows.laid_math_bits_deBruijn32tab), ("math/bits.deBruijn64tab", Rows.laid_math_bits_deBruijn64tab), ("internal/strconv.uint64pow10", Rows.laid_internal_strconv_uint64pow10), ("unicode/utf8.acceptRanges", Rows.laid_unicode_utf8_acceptRanges), ("unicode/utf8.first", Rows.laid_unicode_utf8_first)]

set_option maxRecDepth 100000 in
theorem pow_of_laid {W : World} (h : laidMetH Tryd.prog laidAll W) : Pow W := by
  have h' : laidMet Tryd.prog laidAll W := h
  obtain ⟨ps, ⟨g0, t0, cs0, f0, p0, q0, hg0, ht0, hv0, hd0, ⟨g1, t1, cs1, f1, p1, q1, hg1, ht1, hv1, hd1, ⟨g2, t2, cs2, f2, p2, q2, hg2, ht2, hv2, hd2, _, _⟩, _⟩, _⟩, _, _⟩ := h'
  obtain rfl := Option.some.inj (gPow.symm.trans hg2)
  obtain rfl := Option.some.inj (tPow.symm.trans ht2)
  refine Lib.tabBelow_of_tabIs ?_
  unfold Lib.TabIs
  rw [hv2, ← Lib.cells_of_tab (zs := Lib.pow10Tab) Tryd.underlying101 Tryd.underlying85 cU64 cPow hd2]

/-- The cells of a table. -/
def cell1 : DataW Unit → Value
  | .lit (.int k n) => .int k n
  | _ => .bool false
def cells1 : DataW Unit → List Value
  | .agg l => l.map cell1
  | _ => []
def cells2 : DataW Unit → List Value
  | .agg l => l.flatMap cells1
  | _ => []
def layAt (h : Array Obj) (g : Nat) (cs : List Value) : Array Obj := h.modify g fun
  | .cells _ t frozen => .cells cs.toArray t frozen
  | o => o
/-- A heap with the listed tables in it. -/
def layAll (h : Array Obj) : Array Obj :=
  layAt (layAt (layAt (layAt (layAt h 4 (cells1 Rows.laid_math_bits_deBruijn32tab)) 5 (cells1 Rows.laid_math_bits_deBruijn64tab)) 0 (cells1 Rows.laid_internal_strconv_uint64pow10))
    2 (cells2 Rows.laid_unicode_utf8_acceptRanges)) 1 (cells1 Rows.laid_unicode_utf8_first)

end Go.Proofs.YtndhkbmgpjjepaaDoor

/- Maps that came in: what they read as. Own work; no statement. -/
set_option linter.unusedSimpArgs false
set_option linter.unusedVariables false
namespace Go.Proofs.YtndhkbmgpjjepaaDoor
open Go.ChangeShapes Go.WideShapes Go.ChangeAt Go.RowKit Go.Deep

set_option maxRecDepth 100000 in
theorem span_cells {H : Type} {enc : TypeId × Value → H} {W : World} {base : Nat} {sp : Nat → Bool} {held : Bool} {fuel : Nat} {cs : List Value} {x : DataW H × List MemPlace} (h : DataW.trod enc Tryd.prog W base sp held fuel 48 cs = some x) :
    ∃ r : Int × Int, cs = [.int .i64 r.1, .int .i64 r.2] ∧ (-9223372036854775808 ≤ r.1 ∧ r.1 ≤ 9223372036854775807) ∧ (-9223372036854775808 ≤ r.2 ∧ r.2 ≤ 9223372036854775807) := by
  obtain ⟨xs, n, _, rfl, hl, hlen, hf⟩ := DataW.trod_struct Tryd.underlying48 h
  have hc : Tryd.prog.cellsOf 48 = 2 := by kernel_rfl
  have h3 : Tryd.prog.cellsOf 3 = 1 := by kernel_rfl
  rw [hc] at hl
  match cs, hl, xs, hlen with
  | [c0, c1], _, [y0, y1], _ =>
    have f0 := hf 0 _ rfl
    have f1 := hf 1 _ rfl
    simp [h3] at f0 f1
    obtain ⟨op, e0, -, w0⟩ := DataW.trod_int Tryd.underlying3 f0
    obtain ⟨n, e1, -, w1⟩ := DataW.trod_int Tryd.underlying3 f1
    simp at e0 e1
    subst e0 e1
    exact ⟨⟨op, n⟩, rfl, rng64 w0, rng64 w1⟩

set_option maxRecDepth 100000 in
theorem map_open {H : Type} {enc : TypeId × Value → H} {W : World} {base b0 : Nat} {sp : Nat → Bool} {held : Bool} {r : Reach} {v : Value} {d : DataW H} {p : List MemPlace} (hv : Value.okWide Tryd.prog W r b0 23 v) (h : DataW.Trod enc Tryd.prog W base sp held 23 v d p) (hsp : ∀ b, sp b = true) :
    ∃ l : MapD, IsMap W v l ∧ MapR l := by
  obtain ⟨a, len, cap, rfl⟩ := okWide_slice Tryd.underlying23 hv
  obtain ⟨fuel, hf⟩ := h
  have hc : Tryd.prog.cellsOf 48 = 2 := by kernel_rfl
  rcases open_slice Tryd.underlying23 hf with ⟨hcs, _⟩ | ⟨ad, len', cp, m, n', D, Pl, hcs, _, hlc, _, hm, hx, hat⟩
  · simp [Value.cells] at hcs
    obtain ⟨rfl, rfl, rfl⟩ := hcs
    exact ⟨[], IsMap.nil W, fun x hx => by simp at hx⟩
  · simp [Value.cells] at hcs
    obtain ⟨rfl, rfl, rfl⟩ := hcs
    rw [hsp, if_pos rfl] at hm
    rw [hc] at hat
    have each : ∀ i, i < len → ∃ q : Int × Int, (W.cells? base (ad.add (i * 2)) 2 = some [.int .i64 q.1, .int .i64 q.2]) ∧ ((-9223372036854775808 ≤ q.1 ∧ q.1 ≤ 9223372036854775807) ∧ (-9223372036854775808 ≤ q.2 ∧ q.2 ≤ 9223372036854775807)) := by
      intro i hi
      obtain ⟨cs', h1, h2⟩ := hat i (by omega)
      obtain ⟨q, e, hw⟩ := span_cells h2
      exact ⟨q, by rw [h1, e], hw⟩
    obtain ⟨q, hq⟩ := choose_lt each
    have hlen : ((List.range len).map fun i => q i).length = len := by simp
    refine ⟨(List.range len).map fun i => q i, ⟨some ad, cap, by rw [hlen], (fun e => by cases e), fun t ht => ?_⟩, fun r hr => ?_⟩
    · rw [hlen] at ht
      obtain ⟨h1, _⟩ := hq t ht
      obtain ⟨_, _, hcell⟩ := World.cells?_some h1
      obtain ⟨b, off, spot⟩ := ad
      have g0 := hcell 0 (by omega)
      have g1 := hcell 1 (by omega)
      rw [add_add] at g0 g1
      simp only [List.getElem?_cons_zero, List.getElem?_cons_succ, List.getD, Option.getD_some, Nat.add_zero] at g0 g1
      have hspot : spot = none := by
        obtain ⟨k1, _⟩ := hq 0 (by omega)
        obtain ⟨_, _, kcell⟩ := World.cells?_some k1
        have k0 := kcell 0 (by omega)
        rw [add_add] at k0
        simpa [Addr.add] using World.cell?_spot k0
      subst hspot
      rw [Go.WideShapes.add_plain] at g0 g1
      refine ⟨b, off, rfl, ?_⟩
      rw [List.getElem_map, List.getElem_range]
      exact ⟨g0, by rw [Nat.add_assoc]; exact g1⟩
    · obtain ⟨i, hi, rfl⟩ := List.mem_map.1 hr
      exact (hq i (List.mem_range.1 hi)).2

end Go.Proofs.YtndhkbmgpjjepaaDoor

/- The walk of MapAny. Own work; no statement. -/
set_option linter.unusedSimpArgs false
set_option linter.unusedVariables false
namespace Go.Proofs.YtndhkbmgpjjepaaDoor
open Go.RowKit Go.Shelf

set_option maxHeartbeats 8000000 in
set_option maxRecDepth 100000 in
theorem mapAny_main (v : Value) (m : MapD) (pos n : Int) (w : World) (hv : IsMap w v m) (hr : MapR m) (hpos : (Lit.int .i64 pos).wf = true) (hn : (Lit.int .i64 n).wf = true) (hp : Pow w) :
    Calls Tryd.prog 3 #[v, .int .i64 pos, .int .i64 n] w fun e w' => e = .returned (.bool true) ∧ Below w.heap.size w w' := by
  have hpos' := rng64 hpos
  have K := hide (known5_calls w hp)
  have Hv := hide hv
  obtain ⟨a, cap, rfl⟩ := hv.slice
  clear hv hpos hn
  by_cases hl : 20 < m.length
  · have hlI : (20 : Int) < (m.length : Int) := by omega
    go_enter Tryd.func3, Tryd.ntmps3
    go_wp2_with (go_at_call 8; refine K.out.mono ?_; rintro e w1 ⟨rfl, hB1⟩)
    go_ret
    exact ⟨rfl, hB1⟩
  · have hlI : ¬ (20 : Int) < (m.length : Int) := by omega
    have htl := spansTo_length hr m.length
    have htx : (textM m).length ≤ 880 := by unfold textM; omega
    go_enter Tryd.func3, Tryd.ntmps3
    go_wp2_with fail
    refine K.out.mono ?_
    rintro e w1 ⟨rfl, hB⟩
    have hm := Hv.out.below hB
    clear K Hv
    go_wp2_with fail
    refine (of5_calls _ m w1 hm (by omega)).mono ?_
    rintro e w2 ⟨vx, rfl, hox, hb⟩
    have hx := OwnsR.map hox
    obtain ⟨ax, cx, rfl⟩ := ownsRow_slice hox
    replace hm := hm.below hb
    replace hB := hB.trans (hb.mono hB.size)
    clear hb hox
    go_wp2_with fail
    refine (mapFind_calls _ m pos w2 hm (by omega) (by omega)).mono ?_
    rintro e w3 ⟨rfl, hb⟩
    replace hm := hm.below hb
    replace hx := hx.below hb
    replace hB := hB.trans (hb.mono hB.size)
    clear hb
    go_wp2_with fail
    refine (refFindPos_calls _ m pos w3 hx (by omega) (by omega)).mono ?_
    rintro e w4 ⟨rfl, hb⟩
    replace hm := hm.below hb
    replace hx := hx.below hb
    replace hB := hB.trans (hb.mono hB.size)
    generalize findM m pos = fd
    obtain ⟨f1, f2, f3⟩ := fd
    dsimp only
    clear hb
    go_wp2_with fail
    refine (mapAdd_calls _ m pos n w4 hm (by omega)).mono ?_
    rintro e w5 ⟨vt, rfl, hot, hb⟩
    have ht := OwnsM.map hot
    obtain ⟨at_, ct, rfl⟩ := ownsRow_slice hot
    replace hm := hm.below hb
    replace hx := hx.below hb
    replace hB := hB.trans (hb.mono hB.size)
    clear hb hot
    go_wp2_with fail
    refine (refAddSpan_calls _ m pos n w5 hx (by omega)).mono ?_
    rintro e w6 ⟨vu, rfl, hou, hb⟩
    have hu := OwnsR.map hou
    obtain ⟨au, cu, rfl⟩ := ownsRow_slice hou
    have hal : (addM m pos n).length ≤ 21 := by
      unfold addM
      split
      · simp; omega
      · simp
    generalize addM m pos n = am at *
    generalize checkM (m ++ [(pos, n)]) = ec
    replace hm := hm.below hb
    replace hx := hx.below hb
    replace ht := ht.below hb
    replace hB := hB.trans (hb.mono hB.size)
    clear hb hou
    go_wp2_with fail
    refine (mapCheck_calls _ m w6 hm (by omega)).mono ?_
    rintro e w7 ⟨rfl, hb⟩
    replace hm := hm.below hb
    replace hx := hx.below hb
    replace ht := ht.below hb
    replace hu := hu.below hb
    replace hB := hB.trans (hb.mono hB.size)
    clear hb
    go_wp2_with fail
    refine (refCheckMap_calls _ m w7 hx (by omega)).mono ?_
    rintro e w8 ⟨rfl, d8, hw8⟩
    have hb : Below w7.heap.size w7 w8 := by rw [hw8]; exact below_draws d8
    generalize checkM m = em
    replace hm := hm.below hb
    replace hx := hx.below hb
    replace ht := ht.below hb
    replace hu := hu.below hb
    replace hB := hB.trans (hb.mono hB.size)
    clear hb hw8
    go_wp2_with fail
    refine (of5_calls _ am w8 ht (by omega)).mono ?_
    rintro e w9 ⟨vo, rfl, hoo, hb⟩
    have ho := OwnsR.map hoo
    obtain ⟨ao, co, rfl⟩ := ownsRow_slice hoo
    replace hm := hm.below hb
    replace hx := hx.below hb
    replace hu := hu.below hb
    replace hB := hB.trans (hb.mono hB.size)
    clear hb hoo ht
    go_wp2_with fail
    refine (same5_calls _ _ am am w9 ho hu (by omega) (by omega)).mono ?_
    rintro e w10 ⟨rfl, d10, hw10⟩
    rw [decide_eq_true rfl]
    have hb : Below w9.heap.size w9 w10 := by rw [hw10]; exact below_draws d10
    replace hm := hm.below hb
    replace hx := hx.below hb
    replace hB := hB.trans (hb.mono hB.size)
    clear hb hw10 ho hu
    go_wp2_with fail
    refine (mapText_calls _ m w10 hm (by omega) hr (hp.below hB)).mono ?_
    rintro e w11 ⟨rfl, hb⟩
    replace hm := hm.below hb
    replace hx := hx.below hb
    replace hB := hB.trans (hb.mono hB.size)
    clear hb
    go_wp2_with fail
    refine (refMapText_calls _ m w11 hx (by omega) hr).mono ?_
    rintro e w12 ⟨rfl, hb⟩
    replace hm := hm.below hb
    replace hx := hx.below hb
    replace hB := hB.trans (hb.mono hB.size)
    clear hb
    have hne : ((textM m) != (textM m)) = false := by simp
    go_wp2_with fail
    refine (mapText_calls _ m w12 hm (by omega) hr (hp.below hB)).mono ?_
    rintro e w13 ⟨rfl, hb⟩
    replace hx := hx.below hb
    replace hB := hB.trans (hb.mono hB.size)
    clear hb hm
    go_wp2_with fail
    refine (mapParse_calls (textM m) w13 (by omega)).mono ?_
    rintro e w14 ⟨vp, rfl, hop, hb⟩
    have hpm := OwnsM.map hop
    obtain ⟨ap, cp, rfl⟩ := ownsRow_slice hop
    replace hx := hx.below hb
    replace hB := hB.trans (hb.mono hB.size)
    clear hb hop
    go_wp2_with fail
    refine (refMapText_calls _ m w14 hx (by omega) hr).mono ?_
    rintro e w15 ⟨rfl, hb⟩
    replace hpm := hpm.below hb
    replace hB := hB.trans (hb.mono hB.size)
    clear hb hx
    go_wp2_with fail
    refine (refParseMap_calls (textM m) w15 (by omega)).mono ?_
    rintro e w16 ⟨vq, rfl, hoq, hb⟩
    have hq := OwnsR.map hoq
    obtain ⟨aq, cq, rfl⟩ := ownsRow_slice hoq
    have hpl : (parseM (textM m)).1.length ≤ 1000 := by
      have h1 := splitL_length (textM m)
      unfold parseM parseT parseW spansOf
      repeat' split
      all_goals simp
      all_goals omega
    replace hpm := hpm.below hb
    replace hB := hB.trans (hb.mono hB.size)
    generalize parseM (textM m) = pr at *
    obtain ⟨pm, pe⟩ := pr
    dsimp only at *
    have hee : (pe == pe) = true := by simp
    clear hb hoq
    go_wp2_with fail
    refine (of5_calls _ pm w16 hpm (by omega)).mono ?_
    rintro e w17 ⟨vo2, rfl, hoo, hb⟩
    have ho := OwnsR.map hoo
    obtain ⟨ao2, co2, rfl⟩ := ownsRow_slice hoo
    replace hq := hq.below hb
    replace hB := hB.trans (hb.mono hB.size)
    clear hb hoo hpm
    go_wp2_with fail
    refine (same5_calls _ _ pm pm w17 ho hq (by omega) (by omega)).mono ?_
    rintro e w18 ⟨rfl, d18, hw18⟩
    rw [decide_eq_true rfl]
    have hb : Below w17.heap.size w17 w18 := by rw [hw18]; exact below_draws d18
    replace hB := hB.trans (hb.mono hB.size)
    clear hb hw18 ho hq
    go_wp2
    go_ret
    exact ⟨rfl, hB⟩

end Go.Proofs.YtndhkbmgpjjepaaDoor
