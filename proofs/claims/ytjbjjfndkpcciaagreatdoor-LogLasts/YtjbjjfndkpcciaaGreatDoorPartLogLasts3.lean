/- Own work: the parts WLogLasts, FrameP, Frame of the proof, laid together. -/
import Derived.Test.YtjbjjfndkpcciaaGreatDoorPartLogLasts1
import Derived.Test.YtjbjjfndkpcciaaGreatDoorPartLogLasts2
import Derived.Test.YtjbjjfndkpcciaaGreatDoorPartLogStripes1
import Derived.ProofKit
import Derived.OpenShut
import Derived.ShutString
import Derived.ChangeOld
import Derived.Deep.DeepHandedRow
import Derived.Test.YtjbjjfndkpcciaaGreatDoorPartLogStripes7
import Derived.Test.YtjbjjfndkpcciaaGreatDoorCards
import Derived.Test.YtjbjjfndkpcciaaGreatDoorTie
import Derived.Lib.LaidTab
/- LogLasts: the walk. Own work; no statement. -/
set_option linter.unusedSimpArgs false
set_option linter.unusedVariables false
namespace Go.Proofs.YtjbjjfndkpcciaaGreatDoor
open Go.RowKit Go.Shelf Go.Sort

/-- The records of the law's log. -/
def lf (p : Int) : RecD := lawR (p % 3) (1 + p / 3)
theorem lf_same (p : Int) : sameR (lf p) (lf p) = true := by
  simp [sameR, lf, lawR, everyB]

set_option maxRecDepth 100000 in
set_option maxHeartbeats 8000000 in
theorem logLasts_main (st : Int) (n : Int) (vs : Value) (ls : List Int) (vk : Value) (lk : List Int) (va : Value) (la : List Int) (w : World) (ws : (Lit.int .u8 st).wf = true) (wn : (Lit.int .u8 n).wf = true) (hs : IsNums .u8 w vs ls) (wls : ∀ n ∈ ls, (Lit.int .u8 n).wf = true) (hk : IsNums .i64 w vk lk) (wlk : ∀ n ∈ lk, (Lit.int .i64 n).wf = true) (ha : IsNums .i64 w va la) (wla : ∀ n ∈ la, (Lit.int .i64 n).wf = true) (hp : Pow w) :
    Calls Tryz.prog 4 #[.int .u8 st, .int .u8 n, vs, vk, va] w fun e w' => e = .returned (.bool true) ∧ Go.RowKit.Below w.heap.size w w' := by
  have s0 : 0 ≤ st ∧ st ≤ 255 := rng8 ws
  have n0 : 0 ≤ n ∧ n ≤ 255 := rng8 wn
  obtain ⟨a, haa, ha8⟩ := rem_nat s0.1 (show (0 : Int) < 8 by decide)
  obtain ⟨c, hc, hc40⟩ := rem_nat n0.1 (show (0 : Int) < 40 by decide)
  have hk1 : (1 : Int) ≤ 1 + (a : Int) := by omega
  have hk8 : 1 + (a : Int) ≤ 8 := by omega
  have hw' : ∀ t, t < ls.length → 0 ≤ ls.getD t 0 ∧ ls.getD t 0 ≤ 255 := by
    intro t ht
    rw [List.getD_eq_getElem?_getD, List.getElem?_eq_getElem ht]
    exact rng8 (wls _ (List.getElem_mem ht))
  have Hw := hide hw'
  have WK := hide wlk
  have WA := hide wla
  have HVs := hide hs
  have HVk := hide hk
  have HVa := hide ha
  obtain ⟨a_s, caps, rfl, -, -⟩ := id hs
  obtain ⟨ak, capk, rfl, -, -⟩ := id hk
  obtain ⟨aa, capa, rfl, -, -⟩ := id ha
  clear hw' wlk wla hs hk ha wls
  go_enter Tryz.func4, Tryz.ntmps4
  go_wp2_with fail
  refine (logKnown_calls w hp).mono ?_
  rintro e w1 ⟨rfl, b1⟩
  have hp1 : Pow w1 := hp.below b1
  by_cases hl1 : 40 < ls.length
  · have hI : (40 : Int) < (ls.length : Int) := by omega
    go_wp2_with fail
    go_ret
    exact ⟨rfl, b1⟩
  have hI1 : ¬ (40 : Int) < (ls.length : Int) := by omega
  by_cases hl2 : 20 < lk.length
  · have hI : (20 : Int) < (lk.length : Int) := by omega
    go_wp2_with fail
    go_ret
    exact ⟨rfl, b1⟩
  have hI2 : ¬ (20 : Int) < (lk.length : Int) := by omega
  by_cases hl3 : 20 < la.length
  · have hI : (20 : Int) < (la.length : Int) := by omega
    go_wp2_with fail
    go_ret
    exact ⟨rfl, b1⟩
  have hI3 : ¬ (20 : Int) < (la.length : Int) := by omega
  have HB1 := hide b1
  clear b1
  go_wp2_with fail
  refine (new_at w1 w1 (1 + (a : Int)) 20000 (Below.refl _ w1) hk1 hk8 (by decide) (by decide)).mono ?_
  rintro e w2 ⟨p, rfl, A2⟩
  have P2 : Hid (PT (newL (1 + (a : Int)) 20000) lf [(0, 1 + (a : Int))] 20000 0 0) := hide ⟨inv_new lf hk1 hk8, rfl, rfl, rfl, rfl⟩
  have A2 := hide A2
  have hcs : (c : Int) ≤ 39 := by omega
  go_wp2_with fail
  go_loopw [15] (fun i wr => ∃ (j : Nat) (L : LogD), j ≤ c ∧ i = .int .i64 (j : Int) ∧ At w1 wr p L ∧ PT L lf [(0, 1 + (a : Int))] 20000 (j : Int) j) (fun i _ => c - (intOf i).toNat)
  case atStart => exact ⟨0, _, Nat.zero_le _, rfl, A2.out, P2.out⟩
  case round =>
    obtain ⟨j, L, hj, rfl, hA, hP⟩ := hrel
    clear A2 P2
    have HA := hide hA
    have HP := hide hP
    clear hA hP
    by_cases hlt : j < c
    · have hltI : (j : Int) < (c : Int) := by omega
      have hm3 := Int.emod_nonneg (j : Int) (show (3 : Int) ≠ 0 by decide)
      have hm3' := Int.emod_lt_of_pos (j : Int) (show (0 : Int) < 3 by decide)
      have hd3 : 0 ≤ (j : Int) / 3 ∧ (j : Int) / 3 ≤ 39 := by omega
      go_wp2_with fail
      refine (r6_calls ((j : Int) % 3) (1 + (j : Int) / 3) _).mono ?_
      rintro e w3 ⟨rfl, b3⟩
      have u := hide (pt_put (HA.out.keep b3) HP.out hp1 ((j : Int) % 3) (1 + (j : Int) / 3) rfl (by omega) (by omega) (by omega) (by omega) (by omega) (by simp) (by omega) (by omega))
      clear b3
      go_wp2_with fail
      refine u.out.mono ?_
      rintro e w4 ⟨rfl, L4, A4, P4, -, -, -⟩
      have HA4 := hide A4
      have HP4 := hide P4
      clear A4 P4 u
      by_cases hs : j < ls.length
      · have hsI : (j : Int) < (ls.length : Int) := by omega
        obtain ⟨b, o, rfl, hcell⟩ : ∃ b o, a_s = some ⟨b, o, none⟩ ∧ w4.cell? ⟨b, o + j, none⟩ = some (.int .u8 (ls.getD j 0)) := by
          obtain ⟨a', cap', e, _, h⟩ := HVs.out.below (HB1.out.trans (HA4.out.below.mono HB1.out.size))
          cases e
          exact h j hs
        have hx := Hw.out j hs
        obtain ⟨y, hy, hy8⟩ := rem_nat hx.1 (show (0 : Int) < 8 by decide)
        have hy8n : y < 8 := by omega
        have u := hide (sync_at HA4.out HP4.out.inv y hy8n)
        generalize ls.getD j 0 = x at *
        clear HA HP
        go_wp2_with fail
        refine u.out.mono ?_
        rintro e w5 ⟨rfl, h', A5, I5⟩
        have HA5 := hide A5
        have HP5 : Hid (PT (L4.syncS y h') lf [(0, 1 + (a : Int))] 20000 ((j : Int) + 1) (j + 1)) := hide ⟨I5, HP4.out.next, HP4.out.map, HP4.out.room, HP4.out.trim⟩
        clear A5 I5 u
        go_wp2_with fail
        exact ⟨⟨j + 1, _, by omega, by go_num, HA5.out, by rw [Int.natCast_succ]; exact HP5.out⟩, by simp [intOf]; omega⟩
      · have hsI : ¬ (j : Int) < (ls.length : Int) := by omega
        clear HA HP
        go_wp2_with fail
        exact ⟨⟨j + 1, L4, by omega, by go_num, HA4.out, by rw [Int.natCast_succ]; exact HP4.out⟩, by simp [intOf]; omega⟩
    · obtain rfl : j = c := by omega
      go_wp2_with fail
      refine (head_at HA.out).mono ?_
      obtain ⟨hd, hhd⟩ : ∃ hd, L.head = hd := ⟨_, rfl⟩
      rw [hhd]
      rintro e w5 ⟨rfl, rfl⟩
      have Hhd := hide hhd
      clear hhd
      go_wp2_with fail
      refine (crash_at HA.out HP.out.inv (.slice ak lk.length capk) lk (fun W hW => HVk.out.below (HB1.out.trans (hW.mono HB1.out.size))) (by omega) (fun x hx => rng64 (WK.out x hx))).mono ?_
      rintro e w6 ⟨rfl, A6⟩
      have A6 := hide A6
      clear HA
      go_wp2_with fail
      refine (recover_at lk A6.out HP.out.inv hp1 (by rw [HP.out.room]; omega) (by rw [HP.out.next]; omega)).mono ?_
      rintro e w7 ⟨rfl, h', Rs, A7, I7, hle, hle2, -, -⟩
      rw [HP.out.next] at hle2
      rw [Hhd.out] at hle
      have n7 : (⟨L.room, L.ops, Rs, L.map, false, L.trim, L.gone, h', h'⟩ : LogD).next = h' := rfl
      have d7 : (⟨L.room, L.ops, Rs, L.map, false, L.trim, L.gone, h', h'⟩ : LogD).head = h' := rfl
      have r7 : (⟨L.room, L.ops, Rs, L.map, false, L.trim, L.gone, h', h'⟩ : LogD).room = 20000 := HP.out.room
      have t7 : (⟨L.room, L.ops, Rs, L.map, false, L.trim, L.gone, h', h'⟩ : LogD).trim = 0 := HP.out.trim
      generalize (⟨L.room, L.ops, Rs, L.map, false, L.trim, L.gone, h', h'⟩ : LogD) = L7 at *
      have h0' : 0 ≤ h' := by
        have := I7.fm.head0
        omega
      have A7 := hide A7
      have F7 := hide (And.intro I7 (And.intro n7 (And.intro d7 (And.intro r7 t7))))
      clear I7 n7 d7 r7 t7 A6 HP Hhd
      go_wp2_with fail
      refine (head_at A7.out).mono ?_
      rw [F7.out.2.2.1]
      rintro e w8 ⟨rfl, rfl⟩
      go_wp2_with fail
      refine (next_at A7.out).mono ?_
      rw [F7.out.2.1]
      rintro e w9 ⟨rfl, rfl⟩
      go_wp2_with fail
      go_loopw [18] (fun i wr => ∃ q : Nat, (q : Int) ≤ h' ∧ i = .int .i64 (q : Int) ∧ At w1 wr p L7) (fun i _ => (h' - intOf i).toNat)
      case atStart => exact ⟨0, h0', rfl, A7.out⟩
      case round =>
        obtain ⟨q, hq, rfl, hA⟩ := hrel
        clear A7
        have HA := hide hA
        clear hA
        by_cases hqh : (q : Int) < h'
        · have hm3 := Int.emod_nonneg (q : Int) (show (3 : Int) ≠ 0 by decide)
          have hm3' := Int.emod_lt_of_pos (q : Int) (show (0 : Int) < 3 by decide)
          have hd3 : 0 ≤ (q : Int) / 3 ∧ (q : Int) / 3 ≤ 39 := by omega
          have u := get_at HA.out F7.out.1.fm (fun _ => F7.out.1.up) (q : Int) (by omega)
          rw [F7.out.1.get (by rw [F7.out.2.2.2.2]; omega) (by rw [F7.out.2.1]; exact hqh)] at u
          have u := hide u
          go_wp2_with fail
          refine u.out.mono ?_
          rintro e w10 ⟨vr, rfl, hvr, b10⟩
          have hvr0 := hvr
          obtain ⟨xa, xc, rfl, -⟩ := hvr0
          have Hvr := hide hvr
          have B10 := hide b10
          clear u hvr b10
          go_wp2_with fail
          refine (recOfLaw_calls _ (lf q) _ (Hvr.out.below (box_below _ _))).mono ?_
          rintro e w11 ⟨rfl, b11⟩
          have C11 : Go.RowKit.Below w10.heap.size w10 w11 := (box_below _ _).trans (b11.mono (box_below _ _).size)
          have V11 := hide (Hvr.out.below C11)
          have A11 := hide (HA.out.keep (B10.out.trans (C11.mono B10.out.size)))
          clear Hvr B10 b11 C11 HA
          go_wp2_with fail
          refine (r6_calls ((q : Int) % 3) (1 + (q : Int) / 3) _).mono ?_
          rintro e w12 ⟨rfl, b12⟩
          have V12 := hide (V11.out.below b12)
          have A12 := hide (A11.out.keep b12)
          clear V11 A11 b12
          go_wp2_with fail
          refine (recOfLaw_calls _ (lf q) _ (lawR_is _ _ _)).mono ?_
          rintro e w13 ⟨rfl, b13⟩
          have V13 := hide (V12.out.below b13)
          have A13 := hide (A12.out.keep b13)
          clear V12 A12 b13
          go_wp2_with fail
          refine (refSameRec_calls _ _ (lf q) (lf q) _ V13.out (lawR_is _ _ _) (by simp [lf, lawR]) (by simp [lf, lawR])).mono ?_
          rw [lf_same]
          rintro e w14 ⟨rfl, b14⟩
          have A14 := hide (A13.out.keep b14)
          clear V13 A13 b14
          go_wp2_with fail
          exact ⟨⟨q + 1, by omega, by go_num, A14.out⟩, by simp [intOf]; omega⟩
        · have hqh' : (q : Int) = h' := by omega
          go_wp2_with fail
          refine (crash_at HA.out F7.out.1 (.slice aa la.length capa) la (fun W hW => HVa.out.below (HB1.out.trans (hW.mono HB1.out.size))) (by omega) (fun x hx => rng64 (WA.out x hx))).mono ?_
          rintro e w20 ⟨rfl, A20⟩
          have A20 := hide A20
          clear HA
          go_wp2_with fail
          refine (recover_at la A20.out F7.out.1 hp1 (by rw [F7.out.2.2.2.1]; omega) (by rw [F7.out.2.1]; omega)).mono ?_
          rintro e w21 ⟨rfl, h'', Rs', A21, I21, hle3, hle4, -, -⟩
          rw [F7.out.2.1] at hle4
          rw [F7.out.2.2.1] at hle3
          have hh : h'' = h' := by omega
          have n21 : (⟨L7.room, L7.ops, Rs', L7.map, false, L7.trim, L7.gone, h'', h''⟩ : LogD).next = h' := hh
          have d21 : (⟨L7.room, L7.ops, Rs', L7.map, false, L7.trim, L7.gone, h'', h''⟩ : LogD).head = h' := hh
          generalize (⟨L7.room, L7.ops, Rs', L7.map, false, L7.trim, L7.gone, h'', h''⟩ : LogD) = L21 at *
          have A21 := hide A21
          have F21 := hide (And.intro n21 d21)
          clear A20 I21 F7 n21 d21 hh hle3 hle4
          go_wp2_with fail
          refine (head_at A21.out).mono ?_
          rw [F21.out.2]
          rintro e w22 ⟨rfl, rfl⟩
          go_wp2_with fail
          refine (next_at A21.out).mono ?_
          rw [F21.out.1]
          rintro e w23 ⟨rfl, rfl⟩
          go_wp2_with fail
          go_ret
          exact ⟨rfl, HB1.out.trans (A21.out.below.mono HB1.out.size)⟩

end Go.Proofs.YtjbjjfndkpcciaaGreatDoor

/- What the proofs of the statements share: slices that came in. Own work; no statement. -/
set_option linter.unusedSimpArgs false
set_option linter.unusedVariables false
namespace Go.Proofs.YtjbjjfndkpcciaaGreatDoor
open Go.ChangeShapes Go.WideShapes Go.ChangeAt Go.RowKit

theorem own : ownKnob Tryz.prog.godebug = none := by kernel_rfl
theorem laidOut : laidOutB Tryz.prog = true := by kernel_rfl

/-- A slice of integers that came in: what it reads as; its numbers fit their kind. -/
theorem nums_of_open {H : Type} {enc : TypeId × Value → H} {W : World} {base : Nat} {sp : Nat → Bool} {held : Bool} {t e : TypeId} {k : IntKind} {fuel : Nat} {a : Option Addr} {len cap : Nat} {x : DataW H × List MemPlace}
    (ht : Tryz.prog.underlying t = some (.slice e)) (he : Tryz.prog.underlying e = some (.int k)) (hc : Tryz.prog.cellsOf e = 1) (h : DataW.trod enc Tryz.prog W base sp held fuel t [.slice a len cap] = some x) (hsp : ∀ b, sp b = true) :
    ∃ zs : List Int, IsNums k W (.slice a len cap) zs ∧ (∀ n ∈ zs, (Lit.int k n).wf = true) := by
  rcases open_ints ht he hc h with ⟨hcs, _⟩ | ⟨y, l, c, zs, hcs, _, hl, hm, hz, _, hcell, hwz⟩
  · simp at hcs
    obtain ⟨rfl, rfl, rfl⟩ := hcs
    exact ⟨[], IsNums.nil _ _ _ _, fun n hn => absurd hn (by simp)⟩
  · simp at hcs
    obtain ⟨rfl, rfl, rfl⟩ := hcs
    rw [hsp, if_pos rfl] at hz
    have hlen : (zs.take len).length = len := by simp; omega
    refine ⟨zs.take len, ⟨some y, cap, by rw [hlen], by omega, fun i hi => ?_⟩, fun n hn => hwz n (List.mem_of_mem_take hn)⟩
    obtain ⟨b, off, rfl, hc'⟩ := ints_at hcell (by omega)
    refine ⟨b, off, rfl, ?_⟩
    rw [hc' i (by omega)]
    simp [List.getD, List.getElem?_take, show i < len by omega]

end Go.Proofs.YtjbjjfndkpcciaaGreatDoor

/- What the proofs of the statements share: the library's table out of the row's condition, a world for the witness, slices that came in. Own work; no statement. -/
set_option linter.unusedSimpArgs false
set_option linter.unusedVariables false
namespace Go.Proofs.YtjbjjfndkpcciaaGreatDoor
open Go.ChangeShapes Go.WideShapes Go.ChangeAt Go.RowKit

theorem gPow : Tryz.prog.globalNamed "internal/strconv.uint64pow10" = some 1 := by kernel_rfl
theorem tPow : (Tryz.prog.globals[1]?).map (·.type) = some 258 := by kernel_rfl
theorem cPow : Tryz.prog.cellsOf 258 = 20 := by kernel_rfl
theorem cU64 : Tryz.prog.cellsOf 241 = 1 := by kernel_rfl

/-- What all rows of this seat list. -/
def laidAll : List (String × DataW Unit) := [("math/bits.deBruijn32tab", Rows.laid_math_bits_deBruijn32tab), ("math/bits.deBruijn64tab", Rows.laid_math_bits_deBruijn64tab), ("internal/strconv.uint64pow10", Rows.laid_internal_strconv_uint64pow10), ("unicode/utf8.acceptRanges", Rows.laid_unicode_utf8_acceptRanges), ("unicode/utf8.first", Rows.laid_unicode_utf8_first)]

set_option maxRecDepth 100000 in
theorem pow_of_laid {W : World} (h : laidMetH Tryz.prog laidAll W) : Pow W := by
  have h' : laidMet Tryz.prog laidAll W := h
  obtain ⟨ps, ⟨g0, t0, cs0, f0, p0, q0, hg0, ht0, hv0, hd0, ⟨g1, t1, cs1, f1, p1, q1, hg1, ht1, hv1, hd1, ⟨g2, t2, cs2, f2, p2, q2, hg2, ht2, hv2, hd2, _, _⟩, _⟩, _⟩, _, _⟩ := h'
  obtain rfl := Option.some.inj (gPow.symm.trans hg2)
  obtain rfl := Option.some.inj (tPow.symm.trans ht2)
  refine Lib.tabBelow_of_tabIs ?_
  unfold Lib.TabIs
  rw [hv2, ← Lib.cells_of_tab (zs := Lib.pow10Tab) Tryz.underlying258 Tryz.underlying241 cU64 cPow hd2]

/-- The cells of a table. -/
def cell1 : DataW Unit → Value
  | .lit (.int k n) => .int k n
  | _ => .bool false
def cells1 : DataW Unit → List Value
  | .agg l => l.map cell1
  | _ => []
def cells2 : DataW Unit → List Value
  | .agg l => l.flatMap cells1
  | _ => []
def layAt (h : Array Obj) (g : Nat) (cs : List Value) : Array Obj := h.modify g fun
  | .cells _ t frozen => .cells cs.toArray t frozen
  | o => o
/-- A heap with the listed tables in it. -/
def layAll (h : Array Obj) : Array Obj :=
  layAt (layAt (layAt (layAt (layAt h 2 (cells1 Rows.laid_math_bits_deBruijn32tab)) 3 (cells1 Rows.laid_math_bits_deBruijn64tab)) 1 (cells1 Rows.laid_internal_strconv_uint64pow10))
    5 (cells2 Rows.laid_unicode_utf8_acceptRanges)) 4 (cells1 Rows.laid_unicode_utf8_first)

end Go.Proofs.YtjbjjfndkpcciaaGreatDoor
