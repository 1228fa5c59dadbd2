/- Own work: the parts G34, G35, G36, G37, WLogTrims, FrameP, Frame of the proof, laid together. -/
import Derived.Test.YtjbjjfndkpcciaaGreatDoorPartLogStripes20
import Derived.Test.YtjbjjfndkpcciaaGreatDoorPartLogStripes21
import Derived.LaidEqlPtr
import Derived.Test.YtjbjjfndkpcciaaGreatDoorPartLogStripes11
import Derived.Test.YtjbjjfndkpcciaaGreatDoorPartLogStripes1
import Derived.ProofKit
import Derived.OpenShut
import Derived.ShutString
import Derived.ChangeOld
import Derived.Deep.DeepHandedRow
import Derived.Test.YtjbjjfndkpcciaaGreatDoorPartLogStripes7
import Derived.Test.YtjbjjfndkpcciaaGreatDoorCards
import Derived.Test.YtjbjjfndkpcciaaGreatDoorTie
import Derived.Lib.LaidTab
/- The laws' known over logs. Own work; no statement. -/
set_option linter.unusedSimpArgs false
set_option linter.unusedVariables false
namespace Go.Proofs.YtjbjjfndkpcciaaGreatDoor
open Go.RowKit Go.Shelf Go.Sort

/-- The records of known. -/
def kf (p : Int) : RecD := if p = 2 then lawR 1 1 else lawR 0 (p + 1)
theorem kf_dep (p : Int) : (kf p).dep.length ≤ 17592186044416 := by
  unfold kf
  split <;> simp [lawR]

theorem nums_nil (W : World) : IsNums .i64 W (.slice none 0 0) [] := IsNums.of_row (World.ownsRow_nil W 0 3 1)
theorem nums_lit (W : World) (x : Int) : IsNums .i64 (W.alloc (.cells #[.int .i64 x] 3)) (.slice (some ⟨W.heap.size, 0, none⟩) 1 1) [x] := by
  refine ⟨_, 1, rfl, Nat.le_refl _, fun t ht => ⟨W.heap.size, 0, rfl, ?_⟩⟩
  have : t = 0 := by simpa using ht
  subst this
  have := cellsAt (World.alloc_heap_new W (.cells #[.int .i64 x] 3)) 0
  rw [Nat.zero_add, this]
  rfl
theorem whole_zero (D : DiskD) (k : Nat) : wholeN D (geti [] (k : Int)) = D.lasts := by
  have e : geti [] (k : Int) = 0 := by unfold geti; split <;> simp
  rw [e]
  unfold wholeN
  have : ∀ l : List ByteArray, keepN l 0 = 0 := fun l => by
    cases l with
    | nil => rfl
    | cons s r =>
      unfold keepN
      rw [if_neg (by omega)]
  rw [this]
  rfl

/-- A log of known. -/
structure KL (L : LogD) (c : Int) (N : Nat) : Prop where
  inv : L.Inv kf N
  next : L.next = c
  map : L.map = [(0, 2)]
  room : L.room = 1000
  ops : L.ops = []
  trim : L.trim = 0
  gone : L.gone = []

theorem kl_put {w0 w : World} {p : Nat} {L : LogD} {c : Int} {N : Nat} (h : At w0 w p L) (k : KL L c N) (hp : Pow w0) (site seq : Int) (hf : kf c = lawR site seq) (s0 : 0 ≤ site) (s1 : site < 8) (q0 : 1 ≤ seq) (q1 : seq ≤ 1048576) (hc : c ≤ 100) (hN : N ≤ 10) :
    Calls Tryz.prog 17 #[.pointer (some ⟨p, 0, none⟩), .int .i64 c, rv site seq] w fun e w' => e = .returned (.int .i64 0) ∧ ∃ L', At w0 w' p L' ∧ KL L' (c + 1) (N + 1) ∧ L'.head = L.head ∧ (∀ sy, Sy L sy → sy (L.k c) = false → Sy L' sy) ∧ (∀ sy, Sd L sy → ¬ sy (L.k c) → Sd L' sy) := by
  have hn := k.next
  subst hn
  refine (put_at h k.inv hp site seq hf s0 s1 q0 q1 (by omega) (by rw [k.room]; omega) (by omega) (by rw [k.map]; decide)).mono ?_
  rintro e w' ⟨he, hA, hI, hE⟩
  have he0 : L.putE L.next (kf L.next) = 0 := by
    refine Classical.byContradiction fun hne => ?_
    have h1 : L.putS L.next (kf L.next) = L := by unfold LogD.putS; rw [if_neg hne]
    rw [h1] at hE
    have := congrArg LogD.next hE
    dsimp only at this
    omega
  refine ⟨he, _, hA, ⟨hI, ?_, ?_, ?_, ?_, ?_, ?_⟩, ?_, fun sy h1 h2 => put_sy k.inv he0 h1 h2, fun sy h1 h2 i S hS hi => ?_⟩
  · rw [hE]
  · rw [hE]; exact k.map
  · rw [hE]; exact k.room
  · rw [hE]; exact k.ops
  · rw [hE]; exact k.trim
  · rw [hE]; exact k.gone
  · rw [hE]
  · rw [hE] at hS
    rcases set_get hS with ⟨rfl, -⟩ | ⟨-, h3⟩
    · exact absurd hi h2
    · exact h1 i S h3 hi

set_option maxRecDepth 100000 in
set_option maxHeartbeats 8000000 in
theorem logKnown_calls (w : World) (hp : Pow w) : Calls Tryz.prog 9 #[] w fun e w' => e = .returned (.bool true) ∧ Go.RowKit.Below w.heap.size w w' := by
  have kneg : (1 : Int) ≤ 2 := by decide
  go_enter Tryz.func9, Tryz.ntmps9
  go_wp2_with fail
  refine (new_at w w 2 1000 (Below.refl _ w) (by decide) (by decide) (by decide) (by decide)).mono ?_
  rintro e w1 ⟨p, rfl, A1⟩
  have K1 : Hid (KL (newL 2 1000) 0 0) := hide ⟨inv_new kf (by decide) (by decide), rfl, rfl, rfl, rfl, rfl, rfl⟩
  have S1 : Hid (Sy (newL 2 1000) fun _ => false) := hide (new_sy 2 1000)
  replace A1 := hide (A1)
  go_wp2_with fail
  refine (r6_calls 0 1 w1).mono ?_
  rintro e w2 ⟨rfl, b2⟩
  go_wp2_with fail
  refine (kl_put (A1.out.keep b2) K1.out hp 0 1 rfl (by decide) (by decide) (by decide) (by decide) (by decide) (by decide)).mono ?_
  rintro e w3 ⟨rfl, L3, A3, K3, H3, Y3, -⟩
  replace A3 := hide (A3)
  replace K3 := hide (K3)
  have S3 := hide (Y3 _ S1.out rfl)
  replace H3 := hide (H3)
  clear Y3 b2 A1 S1 K1
  go_wp2_with fail
  refine (r6_calls 0 2 w3).mono ?_
  rintro e w4 ⟨rfl, b4⟩
  go_wp2_with fail
  refine (kl_put (A3.out.keep b4) K3.out hp 0 2 rfl (by decide) (by decide) (by decide) (by decide) (by decide) (by decide)).mono ?_
  rintro e w5 ⟨rfl, L5, A5, K5, H5, Y5, -⟩
  replace A5 := hide (A5)
  replace K5 := hide (K5)
  have S5 := hide (Y5 _ S3.out rfl)
  replace H5 := hide ((H5.trans H3.out))
  clear Y5 b4 A3 S3 K3 H3
  go_wp2_with fail
  refine (r6_calls 1 1 w5).mono ?_
  rintro e w6 ⟨rfl, b6⟩
  go_wp2_with fail
  refine (kl_put (A5.out.keep b6) K5.out hp 1 1 rfl (by decide) (by decide) (by decide) (by decide) (by decide) (by decide)).mono ?_
  rintro e w7 ⟨rfl, L7, A7, K7, H7, Y7, -⟩
  replace A7 := hide (A7)
  replace K7 := hide (K7)
  have S7 := hide (Y7 _ S5.out rfl)
  replace H7 := hide ((H7.trans H5.out))
  clear Y7 b6 A5 S5 K5 H5
  go_wp2_with fail
  refine (r6_calls 1 2 w7).mono ?_
  rintro e w8 ⟨rfl, b8⟩
  have e8 : L7.putE 5 (lawR 1 2) = 1 := by
    unfold LogD.putE
    rw [if_neg (by rw [K7.out.inv.down]; decide), if_pos (by rw [K7.out.next]; decide)]
  go_wp2_with fail
  refine (put_not (A7.out.keep b8) K7.out.inv.fm (fun _ => K7.out.inv.up) hp 5 1 2 (by rw [e8]; decide)).mono ?_
  rw [e8]
  rintro e w9 ⟨rfl, A9⟩
  replace A9 := hide (A9)
  clear A7 b8
  go_wp2_with fail
  refine (head_at A9.out).mono ?_
  rw [show L7.head = 0 from H7.out]
  rintro e w10 ⟨rfl, rfl⟩
  go_wp2_with fail
  refine (sync_at A9.out K7.out.inv 0 (by decide)).mono ?_
  rintro e w11 ⟨rfl, h1, A11, I11⟩
  have K11 : KL (L7.syncS 0 h1) 3 3 := ⟨I11, K7.out.next, K7.out.map, K7.out.room, K7.out.ops, K7.out.trim, K7.out.gone⟩
  have S11 := sync_sy (k := 0) K7.out.inv.fm.eight S7.out (by decide) h1
  have hd11 : (L7.syncS 0 h1).head = 1 := by
    have hk : ∀ q : Int, 0 ≤ q → (L7.syncS 0 h1).k q = (q % 2).toNat := fun q h => k_one K11.map (by decide) (by decide) h
    refine head_is I11 S11 (by rw [K11.trim]; decide) (by rw [K11.next]; decide) (fun q q0 q1 => ?_) (.inr ?_)
    · rw [K11.trim] at q0
      have : q = 0 := by omega
      rw [this, hk 0 (by decide)]
      rfl
    · rw [hk 1 (by decide)]
      rfl
  generalize L7.syncS 0 h1 = L11 at *
  clear S11 S7 K7 H7 A9 I11
  replace A11 := hide A11
  replace K11 := hide K11
  replace hd11 := hide hd11
  go_wp2_with fail
  refine (head_at A11.out).mono ?_
  rw [hd11.out]
  rintro e w12 ⟨rfl, rfl⟩
  go_wp2_with fail
  refine (crash_at A11.out K11.out.inv (.slice none 0 0) [] (fun W _ => nums_nil W) (by decide) (fun x hx => by cases hx)).mono ?_
  rintro e w13 ⟨rfl, A13⟩
  replace A13 := hide A13
  clear A11
  go_wp2_with fail
  refine (r6_calls 0 2 w13).mono ?_
  rintro e w14 ⟨rfl, b14⟩
  have e14 : (L11.crash []).putE 1 (lawR 0 2) = 11 := rfl
  go_wp2_with fail
  refine (put_not (A13.out.keep b14) (crash_fm K11.out.inv []) (fun h => by cases h) hp 1 0 2 (by rw [e14]; decide)).mono ?_
  rw [e14]
  rintro e w15 ⟨rfl, A15⟩
  replace A15 := hide A15
  clear A13 b14
  go_wp2_with fail
  refine (recover_at [] A15.out K11.out.inv hp (by rw [K11.out.room]; decide) (by rw [K11.out.next]; decide)).mono ?_
  rintro e w16 ⟨rfl, h2, Rs, A16, I16, -, -, hall, hz⟩
  have hz2 : h2 = 1 := (hz fun k S _ => whole_zero S.D k).trans hd11.out
  have K16 : KL ⟨L11.room, L11.ops, Rs, L11.map, false, L11.trim, L11.gone, h2, h2⟩ 1 4 := ⟨I16, hz2, K11.out.map, K11.out.room, K11.out.ops, K11.out.trim, K11.out.gone⟩
  have S16 : Sd ⟨L11.room, L11.ops, Rs, L11.map, false, L11.trim, L11.gone, h2, h2⟩ fun i => i ≠ 1 := fun i S hS _ => hall S (List.mem_of_getElem? hS)
  clear hz hall I16
  generalize (⟨L11.room, L11.ops, Rs, L11.map, false, L11.trim, L11.gone, h2, h2⟩ : LogD) = L16 at *
  replace A16 := hide A16
  replace K16 := hide K16
  replace S16 := hide S16
  clear A15 K11 hd11 hz2
  go_wp2_with fail
  refine (next_at A16.out).mono ?_
  rw [K16.out.next]
  rintro e w17 ⟨rfl, rfl⟩
  go_wp2_with fail
  refine (r6_calls 0 2 w17).mono ?_
  rintro e w18 ⟨rfl, b18⟩
  go_wp2_with fail
  refine (kl_put (A16.out.keep b18) K16.out hp 0 2 rfl (by decide) (by decide) (by decide) (by decide) (by decide) (by decide)).mono ?_
  rintro e w19 ⟨rfl, L19, A19, K19, -, -, Y19⟩
  have S19 := Y19 _ S16.out (fun h => h (k_one K16.out.map (by decide) (by decide) (by decide)))
  replace A19 := hide A19
  replace K19 := hide K19
  replace S19 := hide S19
  clear Y19 b18 A16 S16 K16
  go_wp2_with fail
  refine (sync_at A19.out K19.out.inv 1 (by decide)).mono ?_
  rintro e w20 ⟨rfl, h3, A20, I20⟩
  have K20 : KL (L19.syncS 1 h3) 2 5 := ⟨I20, K19.out.next, K19.out.map, K19.out.room, K19.out.ops, K19.out.trim, K19.out.gone⟩
  have S20 := sync_sd S19.out 1 h3
  have hd20 : (L19.syncS 1 h3).head = 2 := by
    have := (sd_all I20 (fun i S hS hi => S20 i S hS (Classical.em (i = 1)))).2
    rw [this]
    exact K20.next
  generalize L19.syncS 1 h3 = L20 at *
  clear S20 S19 K19 A19 I20
  replace A20 := hide A20
  replace K20 := hide K20
  replace hd20 := hide hd20
  have hvec : ∀ q : Nat, (q : Int) ≤ 2 → L20.vecTo q = takeIn [] ((List.range q).map fun (i : Nat) => ((i : Int), kf i)) := fun q hq => by
    unfold LogD.vecTo
    rw [K20.out.gone, K20.out.inv.recs (by rw [K20.out.next, K20.out.trim]; omega), K20.out.trim]
    simp
  have hv2 : L20.vecTo 2 = [2] := (hvec 2 (by decide)).trans (by decide +kernel)
  have hv1 : L20.vecTo 1 = [1] := (hvec 1 (by decide)).trans (by decide +kernel)
  clear hvec
  replace hv2 := hide hv2
  replace hv1 := hide hv1
  go_wp2_with fail
  refine (vec_at A20.out K20.out.inv kf_dep).mono ?_
  rw [hd20.out, hv2.out]
  rintro e w21 ⟨vv, rfl, n21, b21⟩
  obtain ⟨va, vc, rfl⟩ := ownsRow_slice n21
  replace A21 := hide (A20.out.keep b21)
  replace n21 := hide n21
  clear A20 b21
  go_wp2_with fail
  have bl := box_below w21 (.cells #[.int .i64 1] 3)
  have hown : writeE L20.own (textO (.trim 1 (L20.vecTo 1))) = 0 := by
    rw [hv1.out]
    unfold LogD.own
    rw [K20.out.room, K20.out.ops]
    decide +kernel
  refine (trim_at (A21.out.keep bl) K20.out.inv hp kf_dep 1 _ [1] (nums_lit w21 1) (by decide) (by rw [K20.out.trim]; decide) (by rw [hd20.out]; decide) (by rw [hv1.out]; decide +kernel) (by rw [hv1.out]; intro x hx; rw [List.mem_singleton.1 hx]; decide) (by rw [hv1.out]; decide) (by rw [hv1.out]; decide +kernel) hown (by rw [K20.out.room]; decide) (by rw [K20.out.next]; decide)).mono ?_
  rintro e w22 ⟨rfl, h4, A22, I22, hle, kp22⟩
  have hle2 := I22.fm.next0
  have h42 : h4 = 2 := by
    have e1 : (L20.trimS 1 h4).next = 2 := K20.out.next
    have e2 : (L20.trimS 1 h4).head = h4 := rfl
    rw [hd20.out] at hle
    omega
  have g22 : (L20.trimS 1 h4).gone = [1] := hv1.out
  have o22 : (L20.trimS 1 h4).ops = [.trim 1 [1]] := by
    show L20.ops ++ [.trim 1 (L20.vecTo 1)] = _
    rw [K20.out.ops, hv1.out]
    rfl
  have m22 : (L20.trimS 1 h4).map = [(0, 2)] := K20.out.map
  have r22 : (L20.trimS 1 h4).room = 1000 := K20.out.room
  have x22 : (L20.trimS 1 h4).next = 2 := K20.out.next
  have d22 : (L20.trimS 1 h4).head = 2 := h42
  have t22 : (L20.trimS 1 h4).trim = 1 := rfl
  have n22 := kp22.row (own_below n21.out bl)
  generalize L20.trimS 1 h4 = L22 at *
  clear A21 n21 bl hown hle hle2 h42 kp22 K20 hd20 hv2 hv1
  replace A22 := hide A22
  replace I22 := hide I22
  replace n22 := hide n22
  have F22 := hide (And.intro g22 (And.intro o22 (And.intro m22 (And.intro r22 (And.intro x22 (And.intro d22 t22))))))
  clear g22 o22 m22 r22 x22 d22 t22
  go_wp2_with fail
  refine (trimmed_at A22.out I22.out).mono ?_
  rw [F22.out.1, F22.out.2.2.2.2.2.2]
  rintro e w23 ⟨vt, rfl, n23, b23⟩
  obtain ⟨ta, tc, rfl⟩ := ownsRow_slice n23
  have A23 := hide (A22.out.keep b23)
  have n22' := hide (own_below n22.out b23)
  replace n23 := hide n23
  clear A22 n22 b23
  go_wp2_with fail
  have hown : writeE L22.own (textO (.map (L22.map ++ [(L22.next, 3)]))) = 0 := by
    unfold LogD.own
    rw [F22.out.2.2.2.1, F22.out.2.1, F22.out.2.2.1, F22.out.2.2.2.2.1]
    decide +kernel
  refine (resize_at A23.out I22.out hp 3 (by rw [F22.out.2.2.2.2.2.1, F22.out.2.2.2.2.1]) (by decide) (by decide) (by rw [F22.out.2.2.2.1]; decide) (by rw [F22.out.2.2.2.2.1]; decide) (by rw [F22.out.2.2.1]; decide) hown).mono ?_
  rintro e w24 ⟨rfl, A24, I24, -, kp24⟩
  have n24 := hide (kp24.row n22'.out)
  have t24 := hide (kp24.row n23.out)
  have m24 : (L22.resizeS 3).map = [(0, 2), (2, 3)] := by
    show L22.map ++ [(L22.next, 3)] = _
    rw [F22.out.2.2.1, F22.out.2.2.2.2.1]
    rfl
  have tr24 : (L22.resizeS 3).trim = 1 := F22.out.2.2.2.2.2.2
  generalize L22.resizeS 3 = L24 at *
  clear A23 n22' n23 kp24 hown F22 I22
  replace A24 := hide A24
  replace I24 := hide I24
  replace m24 := hide m24
  replace tr24 := hide tr24
  go_wp2_with fail
  have g24 : L24.get 0 = (zeroR, 8) := I24.out.get_trim (by decide) (by rw [tr24.out]; decide)
  refine (get_at A24.out I24.out.fm (fun _ => I24.out.up) 0 (by decide)).mono ?_
  rw [g24]
  rintro e w25 ⟨vr, rfl, hvr, b25⟩
  obtain ⟨xa, xc, rfl, -⟩ := hvr
  have A25 := hide (A24.out.keep b25)
  have n25 := hide (own_below n24.out b25)
  have t25 := hide (own_below t24.out b25)
  clear A24 n24 t24 b25 g24
  go_wp2_with fail
  obtain ⟨W26, hW26⟩ : ∃ W26, w25.alloc (.cells #[.int .i64 zeroR.site, .int .i64 zeroR.seq, .slice xa zeroR.dep.length xc, .string zeroR.key, .string zeroR.val] 36) = W26 := ⟨_, rfl⟩
  have b26 : Go.RowKit.Below w25.heap.size w25 W26 := by rw [← hW26]; exact box_below _ _
  have s26 : W26.heap.size = w25.heap.size + 1 := by rw [← hW26]; simp
  rw [hW26]
  have bl26 := box_below W26 (.cells #[.int .i64 2] 3)
  have n26 := own_below n25.out (b26.trans (bl26.mono b26.size))
  have l26 := nums_lit W26 2
  rw [s26] at l26
  have A27 := hide (A25.out.keep (b26.trans (bl26.mono b26.size)))
  have t27 := hide (own_below t25.out (b26.trans (bl26.mono b26.size)))
  refine (refSame_calls _ _ [2] [2] _ (IsNums.of_row n26) l26 (by decide) (by decide)).mono ?_
  rw [show everyB eqB [2] [2] = true from rfl]
  rintro e w27 ⟨rfl, hw27⟩
  rw [← hw27] at A27 t27
  clear hw27 l26 n26 bl26 b26 s26 hW26 n25 t25 A25
  go_wp2_with fail
  have bl27 := box_below w27 (.cells #[.int .i64 1] 3)
  refine (refSame_calls _ _ [1] [1] _ (IsNums.of_row (own_below t27.out bl27)) (nums_lit w27 1) (by decide) (by decide)).mono ?_
  rw [show everyB eqB [1] [1] = true from rfl]
  rintro e w28 ⟨rfl, hw28⟩
  have A28 := hide (A27.out.keep bl27)
  rw [← hw28] at A28
  clear hw28 bl27 A27 t27
  go_wp2_with fail
  refine (stripes_at A28.out I24.out).mono ?_
  rw [m24.out, show stripesM [(0, 2), (2, 3)] = 3 from rfl]
  rintro e w29 ⟨rfl, n29, rfl⟩
  have A29 := hide (A28.out.keep (drewsB w28 n29))
  clear A28
  go_wp2_with fail
  refine (epoch_at A29.out).mono ?_
  rw [m24.out]
  rintro e w30 ⟨rfl, rfl⟩
  go_wp2_with fail
  refine (down_at A29.out).mono ?_
  rw [I24.out.down]
  rintro e w31 ⟨rfl, rfl⟩
  go_wp2_with fail
  go_ret
  exact ⟨rfl, A29.out.below⟩

end Go.Proofs.YtjbjjfndkpcciaaGreatDoor

/- Logs of one epoch, as the laws fill them. Own work; no statement. -/
set_option linter.unusedSimpArgs false
set_option linter.unusedVariables false
namespace Go.Proofs.YtjbjjfndkpcciaaGreatDoor
open Go.RowKit Go.Shelf Go.Sort

/-- The records of the laws' filled logs. -/
def sf (p : Int) : RecD := lawR 0 (p + 1)
theorem sf_dep (p : Int) : (sf p).dep.length ≤ 17592186044416 := by simp [sf, lawR]

/-- A log of one epoch. -/
structure ST (L : LogD) (k room c : Int) (N : Nat) : Prop where
  inv : L.Inv sf N
  next : L.next = c
  map : L.map = [(0, k)]
  room : L.room = room
  ops : L.ops = []
  trim : L.trim = 0
  gone : L.gone = []

theorem st_put {w0 w : World} {p : Nat} {L : LogD} {k room c : Int} {N : Nat} (h : At w0 w p L) (t : ST L k room c N) (hp : Pow w0) (hc : c ≤ 1000) (hN : 81 * ((N : Int) + 1) ≤ room) (hN2 : N ≤ 1000) :
    Calls Tryz.prog 17 #[.pointer (some ⟨p, 0, none⟩), .int .i64 c, rv 0 (c + 1)] w fun e w' => e = .returned (.int .i64 0) ∧ ∃ L', At w0 w' p L' ∧ ST L' k room (c + 1) (N + 1) ∧ (∀ sy, Sy L sy → sy (L.k c) = false → Sy L' sy) ∧ (Full L → Full L') := by
  have hn := t.next
  subst hn
  have h0 : 0 ≤ L.next := by have := t.inv.fm.trim0; have := t.inv.fm.head0; have := t.inv.fm.next0; omega
  refine (put_at h t.inv hp 0 (L.next + 1) rfl (by decide) (by decide) (by omega) (by omega) (by omega) (by rw [t.room]; omega) (by omega) (by rw [t.map]; simp)).mono ?_
  rintro e w' ⟨he, hA, hI, hE⟩
  have he0 : L.putE L.next (sf L.next) = 0 := by
    refine Classical.byContradiction fun hne => ?_
    have h1 : L.putS L.next (sf L.next) = L := by unfold LogD.putS; rw [if_neg hne]
    rw [h1] at hE
    have := congrArg LogD.next hE
    dsimp only at this
    omega
  refine ⟨he, _, hA, ⟨hI, ?_, ?_, ?_, ?_, ?_, ?_⟩, fun sy h1 h2 => put_sy t.inv he0 h1 h2, fun h1 => put_full t.inv he0 h1⟩
  · rw [hE]
  · rw [hE]; exact t.map
  · rw [hE]; exact t.room
  · rw [hE]; exact t.ops
  · rw [hE]; exact t.trim
  · rw [hE]; exact t.gone
theorem st_sync {L : LogD} {k room c : Int} {N : Nat} (t : ST L k room c N) {j : Nat} {h' : Int} (hI : (L.syncS j h').Inv sf N) : ST (L.syncS j h') k room c N := ⟨hI, t.next, t.map, t.room, t.ops, t.trim, t.gone⟩

/-- One epoch: does something wait there? -/
theorem st_waits {L : LogD} {k room c : Int} {N : Nat} (t : ST L k room c N) (h1 : 1 ≤ k) (h8 : k ≤ 8) {sy : Nat → Bool} (hs : Sy L sy) (hf : Full L) {j : Nat} (hj : j < 8) :
    decide ((L.segs.getD j noSeg).D.lasts < (L.segs.getD j noSeg).D.lines.length) = (!sy j && (decide ((j : Int) < k) && decide ((j : Int) < c))) := by
  have h := waits_sy t.inv hs hf hj
  rw [Bool.eq_iff_iff, decide_eq_true_iff, h, t.trim, t.next]
  simp only [Bool.and_eq_true, Bool.not_eq_true', decide_eq_true_eq]
  constructor
  · rintro ⟨q1, p, q2, q3, q4⟩
    rw [k_one t.map h1 h8 q2] at q4
    have e1 := Int.emod_nonneg p (show k ≠ 0 by omega)
    have e2 := Int.emod_lt_of_pos p (show 0 < k by omega)
    have e3 : p % k ≤ p := by
      rcases Int.lt_or_le p k with h | h
      · rw [Int.emod_eq_of_lt q2 h]; omega
      · omega
    exact ⟨q1, by omega, by omega⟩
  · rintro ⟨q1, q2, q3⟩
    refine ⟨q1, j, by omega, q3, ?_⟩
    rw [k_one t.map h1 h8 (by omega), Int.emod_eq_of_lt (by omega) q2]
    simp

theorem rem_nat {n m : Int} (h : 0 ≤ n) (hm : 0 < m) : ∃ k : Nat, Int.tmod n m = (k : Int) ∧ (k : Int) < m := by
  have h1 := Int.emod_nonneg n (show m ≠ 0 by omega)
  have h2 := Int.emod_lt_of_pos n hm
  refine ⟨(n % m).toNat, ?_, by omega⟩
  rw [Int.tmod_eq_emod_of_nonneg h]
  omega

/-- A log of whatever records. -/
structure PT (L : LogD) (f : Int → RecD) (mp : MapD) (room c : Int) (N : Nat) : Prop where
  inv : L.Inv f N
  next : L.next = c
  map : L.map = mp
  room : L.room = room
  trim : L.trim = 0
theorem pt_put {w0 w : World} {p : Nat} {L : LogD} {f : Int → RecD} {mp : MapD} {room c : Int} {N : Nat} (h : At w0 w p L) (t : PT L f mp room c N) (hp : Pow w0) (site seq : Int) (hf : f c = lawR site seq) (s0 : 0 ≤ site) (s1 : site < 8) (q0 : 1 ≤ seq) (q1 : seq ≤ 1048576) (hc : c ≤ 1000) (hm : mp.length ≤ 1000) (hN : 81 * ((N : Int) + 1) ≤ room) (hN2 : N ≤ 1000) :
    Calls Tryz.prog 17 #[.pointer (some ⟨p, 0, none⟩), .int .i64 c, rv site seq] w fun e w' => e = .returned (.int .i64 0) ∧ ∃ L', At w0 w' p L' ∧ PT L' f mp room (c + 1) (N + 1) ∧ L'.head = L.head ∧ L'.ops = L.ops ∧ L'.gone = L.gone := by
  have hn := t.next
  subst hn
  refine (put_at h t.inv hp site seq hf s0 s1 q0 q1 (by omega) (by rw [t.room]; omega) (by omega) (by rw [t.map]; omega)).mono ?_
  rintro e w' ⟨he, hA, hI, hE⟩
  refine ⟨he, _, hA, ⟨hI, ?_, ?_, ?_, ?_⟩, ?_, ?_, ?_⟩
  · rw [hE]
  · rw [hE]; exact t.map
  · rw [hE]; exact t.room
  · rw [hE]; exact t.trim
  · rw [hE]
  · rw [hE]
  · rw [hE]

end Go.Proofs.YtjbjjfndkpcciaaGreatDoor

/- What a log's own disk takes; the vectors of the laws' logs. Own work; no statement. -/
set_option linter.unusedSimpArgs false
set_option linter.unusedVariables false
namespace Go.Proofs.YtjbjjfndkpcciaaGreatDoor
open Go.RowKit Go.Shelf Go.Sort

theorem spans_no10 {m : MapD} (h : ∀ x ∈ m, 0 ≤ x.1 ∧ 0 ≤ x.2) : ∀ k, ∀ c ∈ spansTo m k, c ≠ 10
  | 0 => by simp [spansTo]
  | k + 1 => by
    intro c hc
    have hk : 0 ≤ (m.getD k (0, 0)).1 ∧ 0 ≤ (m.getD k (0, 0)).2 := by
      by_cases hk : k < m.length
      · rw [List.getD_eq_getElem?_getD, List.getElem?_eq_getElem hk]
        exact h _ (List.getElem_mem hk)
      · rw [List.getD_eq_getElem?_getD, List.getElem?_eq_none (by omega)]
        exact ⟨Int.le_refl _, Int.le_refl _⟩
    simp only [spansTo, spanB, List.mem_append] at hc
    rcases hc with hc | hc | hc | hc | hc
    · exact spans_no10 h k c hc
    · split at hc
      · simp at hc
      · simp at hc
        subst hc
        decide
    · exact itoa_ne hk.1 (by decide) c hc
    · simp at hc
      subst hc
      decide
    · exact itoa_ne hk.2 (by decide) c hc
theorem map_noEnd {m : MapD} (h : ∀ x ∈ m, 0 ≤ x.1 ∧ 0 ≤ x.2) : hasEnd (textO (.map m)) = false := by
  unfold hasEnd
  rw [decide_eq_false_iff_not]
  intro hm
  simp only [textO, textM, List.mem_cons] at hm
  rcases hm with hm | hm | hm
  · exact absurd hm (by decide)
  · exact absurd hm (by decide)
  · exact spans_no10 h _ 10 hm rfl
theorem trim_noEnd {pos : Int} {l : List Int} (h0 : 0 ≤ pos) (h : InS l) : hasEnd (textO (.trim pos l)) = false := by
  unfold hasEnd
  rw [decide_eq_false_iff_not]
  intro hm
  simp only [textO, textL, List.mem_cons, List.mem_append] at hm
  rcases hm with hm | hm | hm | hm | hm | hm | hm
  · exact absurd hm (by decide)
  · exact absurd hm (by decide)
  · exact itoa_ne h0 (by decide) 10 hm rfl
  · exact absurd hm (by decide)
  · exact absurd hm (by decide)
  · exact nums_no10 h _ 10 hm rfl
  · simp at hm
theorem textO_map_size {m : MapD} (h : MapR m) : (textO (.map m)).size ≤ 44 * m.length + 2 := by
  have a2 := spansTo_size h
  simp only [textO, ByteArray.size, List.size_toArray, List.length_cons]
  omega
/-- The own disk's bytes. -/
def LogD.ob (L : LogD) : Nat := bytesOf (L.ops.map textO)
theorem own_takes {L : LogD} {o : OwnOp} (h1 : hasEnd (textO o) = false) (h2 : (L.ob : Int) + ((textO o).size : Int) + 1 ≤ L.room) : writeE L.own (textO o) = 0 := by
  unfold writeE
  rw [if_neg (by rw [h1]; decide)]
  unfold LogD.ob at h2
  show (if L.room - (bytesOf (L.ops.map textO) : Int) < ((textO o).size : Int) + 1 then (6 : Int) else 0) = 0
  rw [if_neg (by omega)]
theorem ob_snoc (l : List OwnOp) (o : OwnOp) : bytesOf ((l ++ [o]).map textO) = bytesOf (l.map textO) + ((textO o).size + 1) := by
  rw [List.map_append, bytesOf_append]
  simp [bytesOf]

/-- The vector of so many records of site 0. -/
def gv (t : Int) : List Int := if t = 0 then [] else [t]
theorem gv_step (t : Int) (h0 : 0 ≤ t) : withL (gv t) 0 (t + 1) = gv (t + 1) := by
  unfold gv
  rw [if_neg (show ¬ t + 1 = 0 by omega)]
  split
  · rename_i e
    subst e
    rfl
  · rfl
theorem gv_take (t : Int) (h0 : 0 ≤ t) : ∀ n : Nat, takeIn (gv t) ((List.range n).map fun (i : Nat) => (t + (i : Int), sf (t + (i : Int)))) = gv (t + (n : Int))
  | 0 => by simp [takeIn]
  | n + 1 => by
    rw [List.range_succ, List.map_append, List.map_singleton, takeIn_snoc, gv_take t h0 n]
    show withL (gv (t + (n : Int))) 0 (t + (n : Int) + 1) = _
    rw [gv_step _ (by omega)]
    congr 1
    omega
theorem gv_self (t : Int) : everyB eqB [t] (gv t) = true := by
  unfold gv everyB
  split
  · rename_i e
    subst e
    decide
  · simp [eqB]
theorem gv_self' (t : Int) : everyB eqB (gv t) [t] = true := by
  unfold gv everyB
  split
  · rename_i e
    subst e
    decide
  · simp [eqB]
theorem gv_more (t : Int) : everyB eqB [t + 1] (gv t) = false := by
  unfold gv everyB
  split
  · rename_i e
    subst e
    decide
  · simp [eqB]
    omega
theorem gv_len (t : Int) : (gv t).length ≤ 1 := by
  unfold gv
  split <;> simp
theorem gv_inS {t : Int} (h0 : 0 ≤ t) (h1 : t ≤ 1048576) : InS (gv t) := by
  unfold gv
  split
  · intro x hx
    cases hx
  · intro x hx
    rw [List.mem_singleton.1 hx]
    exact ⟨h0, h1⟩
theorem gv_written (t : Int) : (gv t).take (writtenL (gv t)) = gv t := by
  unfold gv
  split
  · rfl
  · rename_i e
    have : writtenL [t] = 1 := by simp [writtenL, e]
    rw [this]
    rfl

/-- A log that has all it was given, trimmed. -/
structure FT (L : LogD) (room c q : Int) (N b : Nat) : Prop where
  inv : L.Inv sf N
  next : L.next = c
  head : L.head = c
  room : L.room = room
  trim : L.trim = q
  gone : L.gone = gv q
  ob : L.ob ≤ b
theorem ft_vec {L : LogD} {room c q : Int} {N b : Nat} (t : FT L room c q N b) {p : Int} (h1 : q ≤ p) (h2 : p ≤ c) : L.vecTo p = gv p := by
  have h0 := t.inv.fm.trim0
  have e1 := t.trim
  have e2 := t.next
  unfold LogD.vecTo
  rw [t.gone, t.inv.recs (by omega), t.trim, gv_take q (by omega)]
  congr 1
  omega
theorem ft_of {L : LogD} {k room c : Int} {N : Nat} (t : ST L k room c N) (h : L.head = c) : FT L room c 0 N 0 :=
  ⟨t.inv, t.next, h, t.room, t.trim, t.gone, by unfold LogD.ob; rw [t.ops]; exact Nat.le_refl _⟩
theorem ft_trim {w0 w : World} {p : Nat} {L : LogD} {room c q : Int} {N b : Nat} (h : At w0 w p L) (t : FT L room c q N b) (hp : Pow w0) (pos : Int) (v : Value) (hv : IsNums .i64 w v [pos]) (h1 : q ≤ pos) (h2 : pos ≤ c) (hc : c ≤ 1000) (hN : 81 * ((N : Int) + 1) ≤ room) (hb : (b : Int) + 301 ≤ room) :
    Calls Tryz.prog 32 #[.pointer (some ⟨p, 0, none⟩), .int .i64 pos, v] w fun e w' => e = .returned (.int .i64 0) ∧ ∃ L', At w0 w' p L' ∧ FT L' room c pos (N + 1) (b + 301) := by
  have h0 := t.inv.fm.trim0
  have e1 := t.trim
  have e2 := t.next
  have e3 := t.head
  have hpos : 0 ≤ pos := by omega
  have hv2 := ft_vec t h1 h2
  have hsz := textO_trim_size (pos := pos) (l := gv pos) hpos (by omega) (gv_inS hpos (by omega)) (by have := gv_len pos; omega)
  have hob := t.ob
  have he : writeE L.own (textO (.trim pos (L.vecTo pos))) = 0 := by
    rw [hv2]
    exact own_takes (trim_noEnd hpos (gv_inS hpos (by omega))) (by rw [t.room]; omega)
  refine (trim_at h t.inv hp sf_dep pos v [pos] hv (by simp) (by omega) (by omega) (by rw [hv2]; exact gv_self pos) (by rw [hv2]; exact gv_inS hpos (by omega)) (by rw [hv2]; have := gv_len pos; omega) (by rw [hv2]; exact gv_written pos) he (by rw [t.room]; omega) (by omega)).mono ?_
  rintro e w' ⟨rfl, h', hA, hI, hle, -⟩
  have hn := hI.fm.next0
  have x1 : (L.trimS pos h').next = L.next := rfl
  have x2 : (L.trimS pos h').head = h' := rfl
  refine ⟨rfl, _, hA, hI, by rw [x1]; exact e2, by rw [x2]; omega, t.room, rfl, hv2, ?_⟩
  show bytesOf ((L.ops ++ [OwnOp.trim pos (L.vecTo pos)]).map textO) ≤ _
  rw [ob_snoc, hv2]
  unfold LogD.ob at hob
  omega
/-- Fallen with nothing kept, and recovered. -/
theorem ft_recover {w0 w : World} {p : Nat} {L : LogD} {room c q : Int} {N b : Nat} (h : At w0 w p (L.crash [])) (t : FT L room c q N b) (hp : Pow w0) (hc : c ≤ 1000) (hN : 81 * ((N : Int) + 1) ≤ room) :
    Calls Tryz.prog 21 #[.pointer (some ⟨p, 0, none⟩)] w fun e w' => e = .returned (.int .i64 0) ∧ ∃ L', At w0 w' p L' ∧ FT L' room c q (N + 1) b ∧ L'.map = L.map := by
  refine (recover_at [] h t.inv hp (by rw [t.room]; omega) (by rw [t.next]; omega)).mono ?_
  rintro e w' ⟨rfl, h', Rs, hA, hI, -, -, -, hz⟩
  have e : h' = L.head := hz fun k S _ => whole_zero S.D k
  exact ⟨rfl, _, hA, ⟨hI, e.trans t.head, e.trans t.head, t.room, t.trim, t.gone, t.ob⟩, rfl⟩

end Go.Proofs.YtjbjjfndkpcciaaGreatDoor

/- The laws' filled logs: the call. Own work; no statement. -/
set_option linter.unusedSimpArgs false
set_option linter.unusedVariables false
namespace Go.Proofs.YtjbjjfndkpcciaaGreatDoor
open Go.RowKit Go.Shelf Go.Sort

set_option maxRecDepth 100000 in
set_option maxHeartbeats 8000000 in
theorem filled_calls (k : Int) (c : Nat) (w : World) (hp1 : Pow w) (hk1 : 1 ≤ k) (hk8 : k ≤ 8) (hc40 : (c : Int) ≤ 40) :
    Calls Tryz.prog 26 #[.int .i64 k, .int .i64 (c : Int)] w fun e w' => ∃ p, e = .returned (.pointer (some ⟨p, 0, none⟩)) ∧ ∃ L, At w w' p L ∧ ST L k 100000 (c : Int) c ∧ L.head = (c : Int) := by
  go_enter Tryz.func26, Tryz.ntmps26
  go_wp2_with fail
  refine (new_at w w k 100000 (Below.refl _ w) hk1 hk8 (by decide) (by decide)).mono ?_
  rintro e w2 ⟨p, rfl, A2⟩
  have T2 : Hid (ST (newL k 100000) k 100000 0 0) := hide ⟨inv_new sf hk1 hk8, rfl, rfl, rfl, rfl, rfl, rfl⟩
  have A2 := hide A2
  go_wp2_with fail
  go_loopw [7] (fun i wr => ∃ (j : Nat) (L : LogD), j ≤ c ∧ i = .int .i64 (j : Int) ∧ At w wr p L ∧ ST L k 100000 (j : Int) j) (fun i _ => c - (intOf i).toNat)
  case atStart => exact ⟨0, _, Nat.zero_le _, rfl, A2.out, T2.out⟩
  case round =>
    obtain ⟨j, L, hj, rfl, hA, hT⟩ := hrel
    clear A2 T2
    have HA := hide hA
    have HT := hide hT
    clear hA hT
    by_cases hlt : j < c
    · have hltI : (j : Int) < (c : Int) := by omega
      go_wp2_with fail
      refine (r6_calls 0 ((j : Int) + 1) _).mono ?_
      rintro e w3 ⟨rfl, b3⟩
      have u := hide (st_put (HA.out.keep b3) HT.out hp1 (by omega) (by omega) (by omega))
      clear b3
      go_wp2_with fail
      refine u.out.mono ?_
      rintro e w4 ⟨rfl, L4, A4, T4, -, -⟩
      have HA4 := hide A4
      have HT4 := hide T4
      clear A4 T4 u
      go_wp2_with fail
      exact ⟨⟨j + 1, L4, by omega, by go_num, HA4.out, by rw [Int.natCast_succ]; exact HT4.out⟩, by simp [intOf]; omega⟩
    · obtain rfl : j = c := by omega
      go_wp2_with fail
      go_loopw [8] (fun i wr => ∃ (q : Nat) (Y : LogD), q ≤ 8 ∧ i = .int .i64 (q : Int) ∧ At w wr p Y ∧ ST Y k 100000 (j : Int) j ∧ Sd Y (fun i => i < q)) (fun i _ => 8 - (intOf i).toNat)
      case atStart => exact ⟨0, L, by omega, rfl, HA.out, HT.out, fun i S _ h => absurd h (Nat.not_lt_zero i)⟩
      case round =>
        obtain ⟨q, Y, hq, rfl, hA, hP, hS⟩ := hrel
        clear HA HT
        have HA := hide hA
        have HP := hide hP
        have HS := hide hS
        clear hA hP hS
        by_cases hq8 : q < 8
        · have hq8I : (q : Int) < 8 := by omega
          have u := hide (sync_at HA.out HP.out.inv q hq8)
          go_wp2_with fail
          refine u.out.mono ?_
          rintro e w11 ⟨rfl, h', A11, I11⟩
          have HA11 := hide A11
          have HP11 := hide (st_sync HP.out I11)
          have HS11 : Hid (Sd (Y.syncS q h') fun i => i < q + 1) := hide fun i S hS hi => sync_sd HS.out q h' i S hS (by omega)
          clear A11 I11 u
          go_wp2_with fail
          exact ⟨⟨q + 1, _, by omega, by go_num, HA11.out, HP11.out, HS11.out⟩, by simp [intOf]; omega⟩
        · have hq8I : ¬ (q : Int) < 8 := by omega
          obtain rfl : q = 8 := by omega
          go_wp2_with fail
          go_ret
          exact ⟨p, rfl, Y, HA.out, HP.out, (sd_all HP.out.inv HS.out).2.trans HP.out.next⟩

end Go.Proofs.YtjbjjfndkpcciaaGreatDoor

/- LogTrims: the walk. Own work; no statement. -/
set_option linter.unusedSimpArgs false
set_option linter.unusedVariables false
namespace Go.Proofs.YtjbjjfndkpcciaaGreatDoor
open Go.RowKit Go.Shelf Go.Sort

set_option maxRecDepth 100000 in
set_option maxHeartbeats 8000000 in
theorem logTrims_main (n : Int) (to : Int) (more : Int) (w : World) (wn : (Lit.int .u8 n).wf = true) (wt : (Lit.int .u8 to).wf = true) (wm : (Lit.int .u8 more).wf = true) (hp : Pow w) :
    Calls Tryz.prog 7 #[.int .u8 n, .int .u8 to, .int .u8 more] w fun e w' => e = .returned (.bool true) ∧ Go.RowKit.Below w.heap.size w w' := by
  have n0 : 0 ≤ n ∧ n ≤ 255 := rng8 wn
  have t0 : 0 ≤ to ∧ to ≤ 255 := rng8 wt
  have m0 : 0 ≤ more ∧ more ≤ 255 := rng8 wm
  obtain ⟨c, hc, hc30⟩ := rem_nat n0.1 (show (0 : Int) < 30 by decide)
  obtain ⟨a, ha, hac⟩ := rem_nat t0.1 (show (0 : Int) < (c : Int) + 1 by omega)
  obtain ⟨b, hb, hbc⟩ := rem_nat m0.1 (show (0 : Int) < (c : Int) - (a : Int) + 1 by omega)
  have hz1 : ¬ (c : Int) + 1 = 0 := by omega
  have hz2 : ¬ (c : Int) - (a : Int) + 1 = 0 := by omega
  go_enter Tryz.func7, Tryz.ntmps7
  go_wp2_with fail
  refine (logKnown_calls w hp).mono ?_
  rintro e w1 ⟨rfl, b1⟩
  have hp1 : Pow w1 := hp.below b1
  go_wp2_with fail
  refine (filled_calls 3 c w1 hp1 (by decide) (by decide) (by omega)).mono ?_
  rintro e w2 ⟨p, rfl, L2, A2, T2, h2⟩
  have A2 := hide A2
  have T2 := hide (ft_of T2 h2)
  clear h2
  go_wp2_with fail
  have bl := box_below w2 (.cells #[.int .i64 ((c : Int) + 1)] 3)
  refine (trim_not (A2.out.keep bl) T2.out.inv sf_dep ((c : Int) + 1) _ [(c : Int) + 1] (nums_lit w2 _) (by simp) (.inr (.inl (by rw [T2.out.head]; omega)))).mono ?_
  rintro e w3 ⟨rfl, A3⟩
  have A3 := hide A3
  clear A2 bl
  go_wp2_with fail
  have bl := box_below w3 (.cells #[.int .i64 ((a : Int) + 1)] 3)
  refine (trim_not (A3.out.keep bl) T2.out.inv sf_dep (a : Int) _ [(a : Int) + 1] (nums_lit w3 _) (by simp) (.inr (.inr (by rw [ft_vec T2.out (by omega) (by omega)]; exact gv_more _)))).mono ?_
  rintro e w4 ⟨rfl, A4⟩
  have A4 := hide A4
  clear A3 bl
  go_wp2_with fail
  have bl := box_below w4 (.cells #[.int .i64 (a : Int)] 3)
  refine (ft_trim (A4.out.keep bl) T2.out hp1 (a : Int) _ (nums_lit w4 _) (by omega) (by omega) (by omega) (by omega) (by decide)).mono ?_
  rintro e w5 ⟨rfl, L5, A5, T5⟩
  have A5 := hide A5
  have T5 := hide T5
  clear A4 bl T2
  go_wp2_with fail
  have bl := box_below w5 (.cells #[.int .i64 ((a : Int) + (b : Int))] 3)
  refine (ft_trim (A5.out.keep bl) T5.out hp1 ((a : Int) + (b : Int)) _ (nums_lit w5 _) (by omega) (by omega) (by omega) (by omega) (by decide)).mono ?_
  rintro e w6 ⟨rfl, L6, A6, T6⟩
  have A6 := hide A6
  have T6 := hide T6
  clear A5 bl T5
  by_cases hq : (0 : Int) < (a : Int) + (b : Int)
  · go_wp2_with fail
    have bl := box_below w6 (.cells #[.int .i64 ((a : Int) + (b : Int) - 1)] 3)
    refine (trim_not (A6.out.keep bl) T6.out.inv sf_dep ((a : Int) + (b : Int) - 1) _ [(a : Int) + (b : Int) - 1] (nums_lit w6 _) (by simp) (.inl (by rw [T6.out.trim]; omega))).mono ?_
    rintro e w7 ⟨rfl, A7⟩
    replace A7 := hide A7
    clear A6 bl
    go_wp2_with fail
    clear hq
    refine (crash_at A7.out T6.out.inv (.slice none 0 0) [] (fun W _ => nums_nil W) (by decide) (fun x hx => by cases hx)).mono ?_
    rintro e w8 ⟨rfl, A8⟩
    replace A8 := hide A8
    clear A7
    go_wp2_with fail
    have g8 : (L6.crash []).get 0 = (zeroR, 11) := rfl
    refine (get_at A8.out (crash_fm T6.out.inv []) (fun h => by cases h) 0 (by decide)).mono ?_
    rw [g8]
    rintro e w9 ⟨vr, rfl, hvr, b9⟩
    obtain ⟨xa, xc, rfl, -⟩ := hvr
    have A9 := hide (A8.out.keep b9)
    clear A8 b9 g8
    go_wp2_with fail
    refine (ft_recover (A9.out.keep (box_below _ _)) T6.out hp1 (by omega) (by omega)).mono ?_
    rintro e w10 ⟨rfl, L10, A10, T10, -⟩
    have A10 := hide A10
    have T10 := hide T10
    clear A9 T6
    go_wp2_with fail
    refine (trimmed_at A10.out T10.out.inv).mono ?_
    rw [T10.out.trim, T10.out.gone]
    rintro e w11 ⟨vt, rfl, n11, b11⟩
    obtain ⟨ta, tc, rfl⟩ := ownsRow_slice n11
    have A11 := hide (A10.out.keep b11)
    have N11 := hide n11
    clear A10 n11 b11
    go_wp2_with fail
    go_loopw [15] (fun i wr => ∃ j : Nat, (j : Int) ≤ (c : Int) + 2 ∧ i = .int .i64 (j : Int) ∧ At w1 wr p L10 ∧ Go.RowKit.Below w11.heap.size w11 wr) (fun i _ => c + 2 - (intOf i).toNat)
    case atStart => exact ⟨0, by omega, rfl, A11.out, Below.refl _ _⟩
    case round =>
      obtain ⟨j, hj, rfl, hA, hB⟩ := hrel
      have HA := hide hA
      have HB := hide hB
      clear hA hB A11
      by_cases hj2 : (j : Int) < (c : Int) + 2
      · have hcase : (∃ rr, L10.get (j : Int) = (rr, 8) ∧ (j : Int) < (a : Int) + (b : Int) ∧ (j : Int) < (c : Int)) ∨ (∃ rr, L10.get (j : Int) = (rr, 0) ∧ ¬ (j : Int) < (a : Int) + (b : Int) ∧ (j : Int) < (c : Int)) ∨ (∃ rr, L10.get (j : Int) = (rr, 9) ∧ ¬ (j : Int) < (a : Int) + (b : Int) ∧ ¬ (j : Int) < (c : Int)) := by
          by_cases h1 : (j : Int) < (a : Int) + (b : Int)
          · exact .inl ⟨_, T10.out.inv.get_trim (by omega) (by rw [T10.out.trim]; exact h1), h1, by omega⟩
          · by_cases h2 : (j : Int) < (c : Int)
            · exact .inr (.inl ⟨_, T10.out.inv.get (by rw [T10.out.trim]; omega) (by rw [T10.out.next]; exact h2), h1, h2⟩)
            · exact .inr (.inr ⟨_, T10.out.inv.get_next (by rw [T10.out.next]; omega), h1, h2⟩)
        have u := get_at HA.out T10.out.inv.fm (fun _ => T10.out.inv.up) (j : Int) (by omega)
        rcases hcase with ⟨rr, hg, h1, h2⟩ | ⟨rr, hg, h1, h2⟩ | ⟨rr, hg, h1, h2⟩
        all_goals try (exfalso; omega)
        all_goals
          rw [hg] at u
          have u := hide u
          clear hg
          go_wp2_with fail
          refine u.out.mono ?_
          rintro e w13 ⟨vr, rfl, hvr, b13⟩
          obtain ⟨xa, xc, rfl, -⟩ := hvr
          have b13 := hide b13
          clear u
          go_wp2_with fail
          exact ⟨⟨j + 1, by omega, by go_num, (HA.out.keep b13.out).keep (box_below _ _), HB.out.trans ((b13.out.trans ((box_below _ _).mono b13.out.size)).mono HB.out.size)⟩, by simp [intOf]; omega⟩
      · go_wp2_with fail
        have bl := box_below wr (.cells #[.int .i64 ((a : Int) + (b : Int))] 3)
        refine (refSame_calls _ _ (gv ((a : Int) + (b : Int))) [(a : Int) + (b : Int)] _ (IsNums.of_row (own_below N11.out (HB.out.trans (bl.mono HB.out.size)))) (nums_lit wr _) (by have := gv_len ((a : Int) + (b : Int)); omega) (by simp)).mono ?_
        rw [gv_self']
        rintro e w14 ⟨rfl, hw14⟩
        have A14 := hide (HA.out.keep bl)
        rw [← hw14] at A14
        clear hw14 bl HA HB N11
        go_wp2_with fail
        refine (vec_at A14.out T10.out.inv sf_dep).mono ?_
        rw [T10.out.head, ft_vec T10.out (by omega) (by omega)]
        rintro e w15 ⟨vv, rfl, n15, b15⟩
        obtain ⟨va, vc, rfl⟩ := ownsRow_slice n15
        have A15 := hide (A14.out.keep b15)
        have N15 := hide n15
        clear A14 n15 b15
        go_wp2_with fail
        have bl := box_below w15 (.cells #[.int .i64 (c : Int)] 3)
        refine (refSame_calls _ _ (gv (c : Int)) [(c : Int)] _ (IsNums.of_row (own_below N15.out bl)) (nums_lit w15 _) (by have := gv_len (c : Int); omega) (by simp)).mono ?_
        rw [gv_self']
        rintro e w16 ⟨rfl, hw16⟩
        have A16 := hide (A15.out.keep bl)
        rw [← hw16] at A16
        clear hw16 bl A15 N15
        go_wp2_with fail
        refine (head_at A16.out).mono ?_
        rw [T10.out.head]
        rintro e w17 ⟨rfl, rfl⟩
        go_wp2_with fail
        go_ret
        exact ⟨rfl, b1.trans (A16.out.below.mono b1.size)⟩
  · have ea : a = 0 := by omega
    have eb : b = 0 := by omega
    subst ea eb
    have T7 := T6.out
    rw [show ((0 : Nat) : Int) + ((0 : Nat) : Int) = 0 from rfl] at T7
    replace T6 := hide T7
    clear T7
    have A7 := A6
    clear A6
    go_wp2_with fail
    clear hq
    refine (crash_at A7.out T6.out.inv (.slice none 0 0) [] (fun W _ => nums_nil W) (by decide) (fun x hx => by cases hx)).mono ?_
    rintro e w8 ⟨rfl, A8⟩
    replace A8 := hide A8
    clear A7
    go_wp2_with fail
    have g8 : (L6.crash []).get 0 = (zeroR, 11) := rfl
    refine (get_at A8.out (crash_fm T6.out.inv []) (fun h => by cases h) 0 (by decide)).mono ?_
    rw [g8]
    rintro e w9 ⟨vr, rfl, hvr, b9⟩
    obtain ⟨xa, xc, rfl, -⟩ := hvr
    have A9 := hide (A8.out.keep b9)
    clear A8 b9 g8
    go_wp2_with fail
    refine (ft_recover (A9.out.keep (box_below _ _)) T6.out hp1 (by omega) (by omega)).mono ?_
    rintro e w10 ⟨rfl, L10, A10, T10, -⟩
    have A10 := hide A10
    have T10 := hide T10
    clear A9 T6
    go_wp2_with fail
    refine (trimmed_at A10.out T10.out.inv).mono ?_
    rw [T10.out.trim, T10.out.gone]
    rintro e w11 ⟨vt, rfl, n11, b11⟩
    obtain ⟨ta, tc, rfl⟩ := ownsRow_slice n11
    have A11 := hide (A10.out.keep b11)
    have N11 := hide n11
    clear A10 n11 b11
    go_wp2_with fail
    go_loopw [15] (fun i wr => ∃ j : Nat, (j : Int) ≤ (c : Int) + 2 ∧ i = .int .i64 (j : Int) ∧ At w1 wr p L10 ∧ Go.RowKit.Below w11.heap.size w11 wr) (fun i _ => c + 2 - (intOf i).toNat)
    case atStart => exact ⟨0, by omega, rfl, A11.out, Below.refl _ _⟩
    case round =>
      obtain ⟨j, hj, rfl, hA, hB⟩ := hrel
      have HA := hide hA
      have HB := hide hB
      clear hA hB A11
      by_cases hj2 : (j : Int) < (c : Int) + 2
      · have hcase : (∃ rr, L10.get (j : Int) = (rr, 8) ∧ (j : Int) < (0 : Int) ∧ (j : Int) < (c : Int)) ∨ (∃ rr, L10.get (j : Int) = (rr, 0) ∧ ¬ (j : Int) < (0 : Int) ∧ (j : Int) < (c : Int)) ∨ (∃ rr, L10.get (j : Int) = (rr, 9) ∧ ¬ (j : Int) < (0 : Int) ∧ ¬ (j : Int) < (c : Int)) := by
          by_cases h1 : (j : Int) < (0 : Int)
          · exact .inl ⟨_, T10.out.inv.get_trim (by omega) (by rw [T10.out.trim]; exact h1), h1, by omega⟩
          · by_cases h2 : (j : Int) < (c : Int)
            · exact .inr (.inl ⟨_, T10.out.inv.get (by rw [T10.out.trim]; omega) (by rw [T10.out.next]; exact h2), h1, h2⟩)
            · exact .inr (.inr ⟨_, T10.out.inv.get_next (by rw [T10.out.next]; omega), h1, h2⟩)
        have u := get_at HA.out T10.out.inv.fm (fun _ => T10.out.inv.up) (j : Int) (by omega)
        rcases hcase with ⟨rr, hg, h1, h2⟩ | ⟨rr, hg, h1, h2⟩ | ⟨rr, hg, h1, h2⟩
        all_goals try (exfalso; omega)
        all_goals
          rw [hg] at u
          have u := hide u
          clear hg
          go_wp2_with fail
          refine u.out.mono ?_
          rintro e w13 ⟨vr, rfl, hvr, b13⟩
          obtain ⟨xa, xc, rfl, -⟩ := hvr
          have b13 := hide b13
          clear u
          go_wp2_with fail
          exact ⟨⟨j + 1, by omega, by go_num, (HA.out.keep b13.out).keep (box_below _ _), HB.out.trans ((b13.out.trans ((box_below _ _).mono b13.out.size)).mono HB.out.size)⟩, by simp [intOf]; omega⟩
      · go_wp2_with fail
        have bl := box_below wr (.cells #[.int .i64 ((0 : Int))] 3)
        refine (refSame_calls _ _ (gv ((0 : Int))) [(0 : Int)] _ (IsNums.of_row (own_below N11.out (HB.out.trans (bl.mono HB.out.size)))) (nums_lit wr _) (by have := gv_len ((0 : Int)); omega) (by simp)).mono ?_
        rw [gv_self']
        rintro e w14 ⟨rfl, hw14⟩
        have A14 := hide (HA.out.keep bl)
        rw [← hw14] at A14
        clear hw14 bl HA HB N11
        go_wp2_with fail
        refine (vec_at A14.out T10.out.inv sf_dep).mono ?_
        rw [T10.out.head, ft_vec T10.out (by omega) (by omega)]
        rintro e w15 ⟨vv, rfl, n15, b15⟩
        obtain ⟨va, vc, rfl⟩ := ownsRow_slice n15
        have A15 := hide (A14.out.keep b15)
        have N15 := hide n15
        clear A14 n15 b15
        go_wp2_with fail
        have bl := box_below w15 (.cells #[.int .i64 (c : Int)] 3)
        refine (refSame_calls _ _ (gv (c : Int)) [(c : Int)] _ (IsNums.of_row (own_below N15.out bl)) (nums_lit w15 _) (by have := gv_len (c : Int); omega) (by simp)).mono ?_
        rw [gv_self']
        rintro e w16 ⟨rfl, hw16⟩
        have A16 := hide (A15.out.keep bl)
        rw [← hw16] at A16
        clear hw16 bl A15 N15
        go_wp2_with fail
        refine (head_at A16.out).mono ?_
        rw [T10.out.head]
        rintro e w17 ⟨rfl, rfl⟩
        go_wp2_with fail
        go_ret
        exact ⟨rfl, b1.trans (A16.out.below.mono b1.size)⟩

end Go.Proofs.YtjbjjfndkpcciaaGreatDoor

/- What the proofs of the statements share: slices that came in. Own work; no statement. -/
set_option linter.unusedSimpArgs false
set_option linter.unusedVariables false
namespace Go.Proofs.YtjbjjfndkpcciaaGreatDoor
open Go.ChangeShapes Go.WideShapes Go.ChangeAt Go.RowKit

theorem own : ownKnob Tryz.prog.godebug = none := by kernel_rfl
theorem laidOut : laidOutB Tryz.prog = true := by kernel_rfl

/-- A slice of integers that came in: what it reads as; its numbers fit their kind. -/
theorem nums_of_open {H : Type} {enc : TypeId × Value → H} {W : World} {base : Nat} {sp : Nat → Bool} {held : Bool} {t e : TypeId} {k : IntKind} {fuel : Nat} {a : Option Addr} {len cap : Nat} {x : DataW H × List MemPlace}
    (ht : Tryz.prog.underlying t = some (.slice e)) (he : Tryz.prog.underlying e = some (.int k)) (hc : Tryz.prog.cellsOf e = 1) (h : DataW.trod enc Tryz.prog W base sp held fuel t [.slice a len cap] = some x) (hsp : ∀ b, sp b = true) :
    ∃ zs : List Int, IsNums k W (.slice a len cap) zs ∧ (∀ n ∈ zs, (Lit.int k n).wf = true) := by
  rcases open_ints ht he hc h with ⟨hcs, _⟩ | ⟨y, l, c, zs, hcs, _, hl, hm, hz, _, hcell, hwz⟩
  · simp at hcs
    obtain ⟨rfl, rfl, rfl⟩ := hcs
    exact ⟨[], IsNums.nil _ _ _ _, fun n hn => absurd hn (by simp)⟩
  · simp at hcs
    obtain ⟨rfl, rfl, rfl⟩ := hcs
    rw [hsp, if_pos rfl] at hz
    have hlen : (zs.take len).length = len := by simp; omega
    refine ⟨zs.take len, ⟨some y, cap, by rw [hlen], by omega, fun i hi => ?_⟩, fun n hn => hwz n (List.mem_of_mem_take hn)⟩
    obtain ⟨b, off, rfl, hc'⟩ := ints_at hcell (by omega)
    refine ⟨b, off, rfl, ?_⟩
    rw [hc' i (by omega)]
    simp [List.getD, List.getElem?_take, show i < len by omega]

end Go.Proofs.YtjbjjfndkpcciaaGreatDoor

/- What the proofs of the statements share: the library's table out of the row's condition, a world for the witness, slices that came in. Own work; no statement. -/
set_option linter.unusedSimpArgs false
set_option linter.unusedVariables false
namespace Go.Proofs.YtjbjjfndkpcciaaGreatDoor
open Go.ChangeShapes Go.WideShapes Go.ChangeAt Go.RowKit

theorem gPow : Tryz.prog.globalNamed "internal/strconv.uint64pow10" = some 1 := by kernel_rfl
theorem tPow : (Tryz.prog.globals[1]?).map (·.type) = some 258 := by kernel_rfl
theorem cPow : Tryz.prog.cellsOf 258 = 20 := by kernel_rfl
theorem cU64 : Tryz.prog.cellsOf 241 = 1 := by kernel_rfl

/-- What all rows of this seat list. -/
def laidAll : List (String × DataW Unit) := [("math/bits.deBruijn32tab", Rows.laid_math_bits_deBruijn32tab), ("math/bits.deBruijn64tab", Rows.laid_math_bits_deBruijn64tab), ("internal/strconv.uint64pow10", Rows.laid_internal_strconv_uint64pow10), ("unicode/utf8.acceptRanges", Rows.laid_unicode_utf8_acceptRanges), ("unicode/utf8.first", Rows.laid_unicode_utf8_first)]

set_option maxRecDepth 100000 in
theorem pow_of_laid {W : World} (h : laidMetH Tryz.prog laidAll W) : Pow W := by
  have h' : laidMet Tryz.prog laidAll W := h
  obtain ⟨ps, ⟨g0, t0, cs0, f0, p0, q0, hg0, ht0, hv0, hd0, ⟨g1, t1, cs1, f1, p1, q1, hg1, ht1, hv1, hd1, ⟨g2, t2, cs2, f2, p2, q2, hg2, ht2, hv2, hd2, _, _⟩, _⟩, _⟩, _, _⟩ := h'
  obtain rfl := Option.some.inj (gPow.symm.trans hg2)
  obtain rfl := Option.some.inj (tPow.symm.trans ht2)
  refine Lib.tabBelow_of_tabIs ?_
  unfold Lib.TabIs
  rw [hv2, ← Lib.cells_of_tab (zs := Lib.pow10Tab) Tryz.underlying258 Tryz.underlying241 cU64 cPow hd2]

/-- The cells of a table. -/
def cell1 : DataW Unit → Value
  | .lit (.int k n) => .int k n
  | _ => .bool false
def cells1 : DataW Unit → List Value
  | .agg l => l.map cell1
  | _ => []
def cells2 : DataW Unit → List Value
  | .agg l => l.flatMap cells1
  | _ => []
def layAt (h : Array Obj) (g : Nat) (cs : List Value) : Array Obj := h.modify g fun
  | .cells _ t frozen => .cells cs.toArray t frozen
  | o => o
/-- A heap with the listed tables in it. -/
def layAll (h : Array Obj) : Array Obj :=
  layAt (layAt (layAt (layAt (layAt h 2 (cells1 Rows.laid_math_bits_deBruijn32tab)) 3 (cells1 Rows.laid_math_bits_deBruijn64tab)) 1 (cells1 Rows.laid_internal_strconv_uint64pow10))
    5 (cells2 Rows.laid_unicode_utf8_acceptRanges)) 4 (cells1 Rows.laid_unicode_utf8_first)

end Go.Proofs.YtjbjjfndkpcciaaGreatDoor
