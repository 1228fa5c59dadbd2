/- DiskTwins: the walk. Own work; no statement. -/
import Derived.Test.YtheaifgoleklpaaWDiskCuts
set_option linter.unusedSimpArgs false
set_option linter.unusedVariables false
namespace Go.Proofs.Ytheaifgoleklpaa
open Go.RowKit Go.Shelf

theorem convOne (w : World) (b : UInt8) (c : Int) (hc : (b.toNat : Int) = c) : (convert 53 9 (.slice (some ⟨w.heap.size, 0, none⟩) 1 1)).run Try.prog (w.alloc (.cells #[.int .u8 c] 5)) = .ok (.string ⟨#[b]⟩) (w.alloc (.cells #[.int .u8 c] 5)) := by
  subst hc
  have h : (w.alloc (.cells #[.int .u8 (b.toNat : Int)] 5)).ownsRow 0 5 1 (.slice (some ⟨w.heap.size, 0, none⟩) 1 1) 1 (Lib.byteCells [b]) := World.ownsRow_lit _ #[.int .u8 (b.toNat : Int)] 1 (Nat.zero_le _) (by unfold maxLen; omega) rfl
  exact conv_row h Try.underlying53 Try.underlying5 Try.underlying9

theorem keepN_zero : ∀ (l : List ByteArray), keepN l 0 = 0
  | [] => rfl
  | s :: r => by unfold keepN; rw [if_neg (by omega)]
theorem crashD_zero (D : DiskD) : crashD D 0 = ⟨D.room, D.lines.take D.lasts, D.lasts⟩ := by
  unfold crashD wholeN
  rw [keepN_zero, Nat.add_zero]

theorem wf_u8 {n : Int} (h : (Lit.int .u8 n).wf = true) : 0 ≤ n ∧ n ≤ 255 := by
  have h' : (decide (IntKind.u8.min ≤ n) && decide (n ≤ IntKind.u8.max)) = true := h
  simp only [Bool.and_eq_true, decide_eq_true_eq] at h'
  exact h'

/-- A letter. -/
theorem letter {z : Int} (h0 : 0 ≤ z) (h1 : z ≤ 255) : ∃ (r : Nat) (b : UInt8), z.tmod 26 = (r : Int) ∧ z % 26 = (r : Int) ∧ r < 26 ∧ (b.toNat : Int) = 97 + (r : Int) ∧ hasEnd ⟨#[b]⟩ = false := by
  obtain ⟨m, rfl⟩ := Int.eq_ofNat_of_zero_le h0
  have hr : m % 26 < 26 := Nat.mod_lt _ (by decide)
  have hb : (UInt8.ofNat (97 + m % 26)).toNat = 97 + m % 26 := by
    rw [UInt8.toNat_ofNat_of_lt']
    show 97 + m % 26 < 256
    omega
  refine ⟨m % 26, UInt8.ofNat (97 + m % 26), ?_, by omega, hr, by rw [hb]; omega, ?_⟩
  · rw [Int.tmod_eq_emod_of_nonneg (by omega)]; omega
  · unfold hasEnd
    rw [decide_eq_false]
    simp only [List.mem_singleton]
    intro e
    have e2 := congrArg UInt8.toNat e
    rw [hb] at e2
    simp at e2
    omega

set_option maxRecDepth 100000 in
set_option maxHeartbeats 8000000 in
theorem diskTwins_main (v : Value) (l : List Int) (n : Int) (w : World) (hv : IsNums .u8 w v l) (hwl : ∀ n ∈ l, (Lit.int .u8 n).wf = true) (hn : (Lit.int .u8 n).wf = true) :
    Calls Try.prog 7 #[v, .int .u8 n] w fun e w' => e = .returned (.bool true) ∧ Below w.heap.size w w' := by
  obtain ⟨n0, n1⟩ := wf_u8 hn
  obtain ⟨a, cap, rfl, hcap, -⟩ := id hv
  obtain ⟨m, hm⟩ : ∃ m : Nat, n.tmod ((l.length : Int) + 1) = (m : Int) := by
    rw [Int.tmod_eq_emod_of_nonneg n0]
    exact Int.eq_ofNat_of_zero_le (Int.emod_nonneg _ (by omega))
  have hml : m ≤ l.length := by
    have : n.tmod ((l.length : Int) + 1) < (l.length : Int) + 1 := by rw [Int.tmod_eq_emod_of_nonneg n0]; exact Int.emod_lt_of_pos _ (by omega)
    omega
  have Hv := hide hv
  have Hwl := hide hwl
  clear hv hwl hn hcap
  go_enter Try.func7, Try.ntmps7
  go_wp2_with fail
  refine (diskKnown_calls w).mono ?_
  rintro e w1 ⟨rfl, b1⟩
  by_cases hl : l.length ≤ 20
  · have hlI : ¬ (20 : Int) < (l.length : Int) := by omega
    go_wp2_with fail
    refine (diskNew_calls 10000 w1 (by decide) (by decide)).mono ?_
    rintro e w2 ⟨rfl, d2, t2⟩
    have b2 := b1.trans (t2.mono b1.size)
    have hp := b1.size
    obtain ⟨p, hpe⟩ : ∃ p, w1.heap.size = p := ⟨_, rfl⟩
    rw [hpe] at d2 hp ⊢
    clear t2 hpe b1
    have hne : ¬ (l.length : Int) + 1 = 0 := by omega
    go_wp2_with fail
    clear hm
    go_loopw [8] (fun i wr => ∃ (k : Nat) (g : Option Nat) (ls : List ByteArray), i = .int .i64 (k : Int) ∧ k ≤ l.length ∧ ls.length = k ∧ bytesOf ls = 2 * k ∧ IsDisk wr p p g ⟨10000, ls, if m ≤ k then m else 0⟩ ∧ Below w.heap.size w wr) (fun i _ => l.length - (intOf i).toNat)
    case atStart =>
      refine ⟨0, none, [], rfl, Nat.zero_le _, rfl, rfl, ?_, b2⟩
      have : (if m ≤ 0 then m else 0) = 0 := by split <;> omega
      rw [this]
      exact d2
    case round =>
      clear d2 b2
      obtain ⟨k, g, ls, rfl, hk, hlk, hby, hd, hB⟩ := hrel
      have Hd := hide hd
      have HB := hide hB
      have Hlk := hide hlk
      have Hby := hide hby
      clear hd hB hlk hby
      by_cases hlt : k < l.length
      · have hltI : (k : Int) < (l.length : Int) := by omega
        rcases (Hv.out.below HB.out).cases with ⟨rfl, -⟩ | ⟨b, o, cap', e, -, -, -, hcell⟩
        · simp at hlt
        simp only [Value.slice.injEq] at e
        obtain ⟨rfl, -, rfl⟩ := e
        have hc := hcell k hlt
        have hz := Hwl.out (l.getD k 0) (by rw [List.getD, List.getElem?_eq_getElem hlt]; exact List.getElem_mem _)
        obtain ⟨z, hze⟩ : ∃ z, l.getD k 0 = z := ⟨_, rfl⟩
        rw [hze] at hc hz
        obtain ⟨z0, z1⟩ := wf_u8 hz
        obtain ⟨r, by1, hr1, hr2, hr3, hby1, hend⟩ := letter z0 z1
        clear hcell hze hz
        have hpw : p ≤ wr.heap.size := by have := Hd.out.lt; omega
        have cv := fun w => convOne w by1 _ hby1
        have hwe : writeE ⟨10000, ls, if m ≤ k then m else 0⟩ ⟨#[by1]⟩ = 0 := by
          unfold writeE
          rw [if_neg (by rw [hend]; decide), if_neg]
          dsimp only
          rw [Hby.out, show (⟨#[by1]⟩ : ByteArray).size = 1 from rfl]
          omega
        have Hwe := hide hwe
        clear hwe hend hby1
        have HBa := hide (HB.out.alloc HB.out.size (.cells #[.int .u8 (97 + (r : Int))] 5))
        by_cases hkm : k + 1 = m
        · have hkb : (((k : Int) + 1) == (m : Int)) = true := by simp; omega
          have Hkm := hide hkm
          clear hkm
          go_wp2_with fail
          refine (diskWrite_to _ _ _ _ ⟨#[by1]⟩ 0 ⟨10000, ls ++ [⟨#[by1]⟩], if m ≤ k then m else 0⟩ Hwe.out (by unfold writeD; rw [if_pos Hwe.out]) _ (Hd.out.new ((Below.refl _ wr).alloc (Nat.le_refl _) _)) (by simp; omega) (by rw [show (⟨#[by1]⟩ : ByteArray).size = 1 from rfl]; decide)).mono ?_
          rintro e w3 ⟨rfl, g3, d3, t3, -⟩
          have b3 := HBa.out.trans (((Hd.out.new ((Below.refl _ wr).alloc (Nat.le_refl _) _)).below (by simp; omega) t3).mono (by omega))
          go_wp2_with fail
          refine (diskSync_calls _ _ _ _ _ d3).mono ?_
          rintro e w4 ⟨rfl, d4, t4⟩
          have b4 := b3.trans ((d3.below (by have := t3.size; simp at this; omega) t4).mono (by omega))
          go_wp2_with fail
          refine ⟨⟨k + 1, g3, ls ++ [⟨#[by1]⟩], by go_num, by omega, by simp [Hlk.out], ?_, ?_, b4⟩, by simp [intOf]; omega⟩
          · rw [bytesOf_append, Hby.out, show bytesOf [⟨#[by1]⟩] = 2 from rfl]; omega
          · rw [if_pos (by have := Hkm.out; omega)]
            rw [show (ls ++ [(⟨#[by1]⟩ : ByteArray)]).length = m by simp [Hlk.out, Hkm.out]] at d4
            exact d4
        · have hkb : (((k : Int) + 1) == (m : Int)) = false := by simp; omega
          have Hkm := hide hkm
          clear hkm
          go_wp2_with fail
          refine (diskWrite_to _ _ _ _ ⟨#[by1]⟩ 0 ⟨10000, ls ++ [⟨#[by1]⟩], if m ≤ k then m else 0⟩ Hwe.out (by unfold writeD; rw [if_pos Hwe.out]) _ (Hd.out.new ((Below.refl _ wr).alloc (Nat.le_refl _) _)) (by simp; omega) (by rw [show (⟨#[by1]⟩ : ByteArray).size = 1 from rfl]; decide)).mono ?_
          rintro e w3 ⟨rfl, g3, d3, t3, -⟩
          have b3 := HBa.out.trans (((Hd.out.new ((Below.refl _ wr).alloc (Nat.le_refl _) _)).below (by simp; omega) t3).mono (by omega))
          go_wp2_with fail
          refine ⟨⟨k + 1, g3, ls ++ [⟨#[by1]⟩], by go_num, by omega, by simp [Hlk.out], ?_, ?_, b3⟩, by simp [intOf]; omega⟩
          · rw [bytesOf_append, Hby.out, show bytesOf [⟨#[by1]⟩] = 2 from rfl]; omega
          · rw [show (if m ≤ k + 1 then m else 0) = if m ≤ k then m else 0 by have := Hkm.out; split <;> split <;> omega]
            exact d3
      · obtain rfl : k = l.length := by omega
        have d0 := Hd.out
        rw [if_pos hml] at d0
        obtain ⟨N, hN⟩ : ∃ N, l.length = N := ⟨_, rfl⟩
        have hwb : ((N : Int) - (m : Int) != (N : Int) - (m : Int)) = false := by simp
        have hub : (((2 * N : Nat) : Int) != ((2 * N : Nat) : Int)) = false := by simp
        have Hl := Hlk.out
        have Hb2 := Hby.out
        rw [hN] at Hl Hb2
        have HL := hide Hl
        have HB2 := hide Hb2
        have hN20 : N ≤ 20 := by omega
        have hmN : m ≤ N := by omega
        have Dd := hide d0
        clear d0 Hd Hlk Hby Hl Hb2
        have hpw : p ≤ wr.heap.size := by have := Dd.out.lt; omega
        go_wp2_with fail
        refine (diskTwin_calls _ _ _ _ _ Dd.out).mono ?_
        rintro e w3 ⟨rfl, gt, dt, t3⟩
        have ap := hide (apart_new Dd.out dt (Nat.le_refl _))
        have d3 := hide (Dd.out.new t3)
        have b3 := hide (HB.out.trans (t3.mono HB.out.size))
        obtain ⟨q, hq⟩ : ∃ q, wr.heap.size = q := ⟨_, rfl⟩
        have dt3 := hide (dt.lower hpw)
        rw [hq] at ap dt3 ⊢
        have s3 : p ≤ w3.heap.size := by have := d3.out.lt; omega
        clear dt t3 Dd HB hq
        have hcr : crashD ⟨10000, ls, m⟩ 0 = ⟨10000, ls.take m, m⟩ := crashD_zero _
        have hwn : writeE ⟨10000, ls.take m, m⟩ ⟨#[110, 101, 119]⟩ = 0 := by
          unfold writeE
          rw [if_neg (by decide), if_neg]
          have e1 := bytesOf_take ls m
          have e2 := HB2.out
          dsimp only
          rw [show (⟨#[110, 101, 119]⟩ : ByteArray).size = 3 from rfl]
          omega
        have hwd : writeD ⟨10000, ls.take m, m⟩ ⟨#[110, 101, 119]⟩ = ⟨10000, ls.take m ++ [⟨#[110, 101, 119]⟩], m⟩ := by unfold writeD; rw [if_pos hwn]
        have hml1 : ((ls.take m ++ [(⟨#[110, 101, 119]⟩ : ByteArray)]).length : Int) = (m : Int) + 1 := by have := HL.out; simp; omega
        have Hcr := hide hcr
        have Hwn := hide hwn
        have Hwd := hide hwd
        have Hml1 := hide hml1
        clear hcr hwn hwd hml1
        go_wp2_with fail
        refine (diskWaits_to _ _ _ _ ((N : Int) - (m : Int)) (by dsimp only; rw [HL.out]) _ dt3.out).mono ?_
        rintro e w4 ⟨rfl, n4, hw4⟩
        have d4 := hide (d3.out.drews n4)
        have dt4 := hide (dt3.out.drews n4)
        have b4 := hide (b3.out.trans ((drewsB w3 n4).mono b3.out.size))
        rw [← hw4] at d4 dt4 b4
        clear hw4 d3 dt3 b3 s3
        go_wp2_with fail
        refine (diskUsed_to _ _ _ _ ((2 * N : Nat) : Int) (by dsimp only; rw [HB2.out]) _ dt4.out).mono ?_
        rintro e w5 ⟨rfl, hw5⟩
        subst hw5
        go_wp2_with fail
        refine (diskUsed_to _ _ _ _ ((2 * N : Nat) : Int) (by dsimp only; rw [HB2.out]) _ d4.out).mono ?_
        rintro e w6 ⟨rfl, hw6⟩
        subst hw6
        go_wp2_with fail
        refine (diskLines_calls _ _ _ _ _ dt4.out).mono ?_
        rintro e w7 ⟨bs, rfl, -, hseq, t7⟩
        dsimp only at hseq
        have d7 := hide (d4.out.new t7)
        have dt7 := hide (dt4.out.new t7)
        have b7 := hide (b4.out.trans (t7.mono b4.out.size))
        clear d4 dt4 b4 t7
        go_wp2_with fail
        refine (lawLines3_calls _ 30 _ _ hseq (by rw [HL.out]; omega) (by decide)).mono ?_
        rintro e w8 ⟨va, rfl, ra, t8⟩
        have d8 := hide (d7.out.new t8)
        have dt8 := hide (dt7.out.new t8)
        have b8 := hide (b7.out.trans (t8.mono b7.out.size))
        have qa := hide (show ∀ j, w7.heap.size ≤ j → ¬ onDisk q gt j from fun j hj h => by have := (dt7.out.on h).2; omega)
        have qd := hide (show ∀ j, w7.heap.size ≤ j → ¬ onDisk p g j from fun j hj h => by have := (d7.out.on h).2; omega)
        obtain ⟨aa, ca, rfl⟩ := ownsRow_slice ra
        rw [HL.out] at ra ⊢
        have r8 := hide ra
        have s8 : p ≤ w8.heap.size := by have := d8.out.lt; omega
        clear d7 dt7 b7 t8 hseq ra
        go_wp2_with fail
        refine (diskCrash_to _ _ _ _ 0 _ Hcr.out _ dt8.out (by decide) (by decide)).mono ?_
        rintro e w9 ⟨rfl, dt9, t9⟩
        have d9 := hide (d8.out.touch t9 ap.out)
        have r9 := hide (row_touch r8.out t9 qa.out)
        have b9 := hide (b8.out.trans ((dt8.out.below s8 t9).mono (by omega)))
        have s9 : p ≤ w9.heap.size := by have := t9.size; omega
        have Dt9 := hide dt9
        clear d8 dt8 b8 r8 s8 t9 dt9
        go_wp2_with fail
        refine (diskWrite_to _ _ _ _ _ 0 _ Hwn.out Hwd.out _ Dt9.out s9 (by decide)).mono ?_
        rintro e w10 ⟨rfl, gt', dt10, t10, n10⟩
        have d10 := hide (d9.out.touch t10 ap.out)
        have r10 := hide (row_touch r9.out t10 qa.out)
        have b10 := hide (b9.out.trans ((Dt9.out.below s9 t10).mono (by omega)))
        have ap10 := hide (ap.out.symm.goes d9.out n10)
        have Dt10 := hide dt10
        clear d9 Dt9 b9 r9 s9 t10 dt10 n10 ap
        go_wp2_with fail
        refine (diskLines_calls _ _ _ _ _ d10.out).mono ?_
        rintro e w11 ⟨bs2, rfl, -, hseq2, t11⟩
        dsimp only at hseq2
        have d11 := hide (d10.out.new t11)
        have dt11 := hide (Dt10.out.new t11)
        have b11 := hide (b10.out.trans (t11.mono b10.out.size))
        have r11 := hide (row_new r10.out t11)
        clear d10 Dt10 b10 r10 t11
        go_wp2_with fail
        refine (lawLines3_calls _ 30 _ _ hseq2 (by rw [HL.out]; omega) (by decide)).mono ?_
        rintro e w12 ⟨vb, rfl, rb, t12⟩
        have d12 := hide (d11.out.new t12)
        have dt12 := hide (dt11.out.new t12)
        have b12 := hide (b11.out.trans (t12.mono b11.out.size))
        have r12 := hide (row_new r11.out t12)
        have qb := hide (show ∀ j, w11.heap.size ≤ j → ¬ onDisk p g j from fun j hj h => by have := (d11.out.on h).2; omega)
        obtain ⟨ab, cb, rfl⟩ := ownsRow_slice rb
        rw [HL.out] at rb ⊢
        have x12 := hide rb
        have s12 : p ≤ w12.heap.size := by have := d12.out.lt; omega
        clear d11 dt11 b11 r11 t12 hseq2 rb
        go_wp2_with fail
        refine (diskSync_to _ _ _ _ N HL.out _ d12.out).mono ?_
        rintro e w13 ⟨rfl, d13, t13⟩
        dsimp only at d13
        have D13 := hide d13
        have dt13 := hide (dt12.out.touch t13 ap10.out)
        have b13 := hide (b12.out.trans ((d12.out.below s12 t13).mono (by omega)))
        have i1 := hide (IsStrs.of_row (l := ls) (by rw [HL.out]; exact row_touch r12.out t13 qd.out))
        have i2 := hide (IsStrs.of_row (l := ls) (by rw [HL.out]; exact row_touch x12.out t13 qb.out))
        clear d13 t13 d12 dt12 b12 r12 x12 s12
        go_wp2_with fail
        refine (sameLines3_calls _ _ ls ls _ i1.out i2.out (by rw [HL.out]; omega) (by rw [HL.out]; omega)).mono ?_
        rintro e w14 ⟨rfl, n14, hw14⟩
        rw [decide_eq_true (show ls = ls from rfl)]
        have d14 := hide (D13.out.drews n14)
        have dt14 := hide (dt13.out.drews n14)
        have b14 := hide (b13.out.trans ((drewsB w13 n14).mono b13.out.size))
        rw [← hw14] at d14 dt14 b14
        clear hw14 D13 dt13 b13 i1 i2
        go_wp2_with fail
        refine (diskLen_to _ _ _ _ ((m : Int) + 1) Hml1.out _ dt14.out).mono ?_
        rintro e w15 ⟨rfl, hw15⟩
        subst hw15
        go_wp2_with fail
        refine (diskLen_to _ _ _ _ (N : Int) (by dsimp only; rw [HL.out]) _ d14.out).mono ?_
        rintro e w16 ⟨rfl, hw16⟩
        subst hw16
        go_wp2_with fail
        refine (diskWaits_to _ _ _ _ 1 (by have := Hml1.out; dsimp only; omega) _ dt14.out).mono ?_
        rintro e w17 ⟨rfl, n17, hw17⟩
        have d17 := hide (d14.out.drews n17)
        have b17 := hide (b14.out.trans ((drewsB _ n17).mono b14.out.size))
        rw [← hw17] at d17 b17
        clear hw17 d14 dt14 b14
        go_wp2_with fail
        refine (diskWaits_to _ _ _ _ 0 (by dsimp only; rw [HL.out]; omega) _ d17.out).mono ?_
        rintro e w18 ⟨rfl, n18, hw18⟩
        have b18 := hide (b17.out.trans ((drewsB _ n18).mono b17.out.size))
        rw [← hw18] at b18
        clear hw18 d17 b17
        go_wp2
        go_ret
        exact ⟨rfl, b18.out⟩
  · have hlI : (20 : Int) < (l.length : Int) := by omega
    go_wp2
    go_ret
    exact ⟨rfl, b1⟩

end Go.Proofs.Ytheaifgoleklpaa
