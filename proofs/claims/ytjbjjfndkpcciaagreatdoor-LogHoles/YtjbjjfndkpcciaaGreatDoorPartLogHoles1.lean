/- Own work: the parts G34, G35, WLogHoles, FrameP, Frame of the proof, laid together. -/
import Derived.Test.YtjbjjfndkpcciaaGreatDoorPartLogStripes20
import Derived.Test.YtjbjjfndkpcciaaGreatDoorPartLogStripes21
import Derived.LaidEqlPtr
import Derived.Test.YtjbjjfndkpcciaaGreatDoorPartLogStripes1
import Derived.ProofKit
import Derived.OpenShut
import Derived.ShutString
import Derived.ChangeOld
import Derived.Deep.DeepHandedRow
import Derived.Test.YtjbjjfndkpcciaaGreatDoorPartLogStripes7
import Derived.Test.YtjbjjfndkpcciaaGreatDoorCards
import Derived.Test.YtjbjjfndkpcciaaGreatDoorTie
import Derived.Lib.LaidTab
/- The laws' known over logs. Own work; no statement. -/
set_option linter.unusedSimpArgs false
set_option linter.unusedVariables false
namespace Go.Proofs.YtjbjjfndkpcciaaGreatDoor
open Go.RowKit Go.Shelf Go.Sort

/-- The records of known. -/
def kf (p : Int) : RecD := if p = 2 then lawR 1 1 else lawR 0 (p + 1)
theorem kf_dep (p : Int) : (kf p).dep.length ≤ 17592186044416 := by
  unfold kf
  split <;> simp [lawR]

theorem nums_nil (W : World) : IsNums .i64 W (.slice none 0 0) [] := IsNums.of_row (World.ownsRow_nil W 0 3 1)
theorem nums_lit (W : World) (x : Int) : IsNums .i64 (W.alloc (.cells #[.int .i64 x] 3)) (.slice (some ⟨W.heap.size, 0, none⟩) 1 1) [x] := by
  refine ⟨_, 1, rfl, Nat.le_refl _, fun t ht => ⟨W.heap.size, 0, rfl, ?_⟩⟩
  have : t = 0 := by simpa using ht
  subst this
  have := cellsAt (World.alloc_heap_new W (.cells #[.int .i64 x] 3)) 0
  rw [Nat.zero_add, this]
  rfl
theorem whole_zero (D : DiskD) (k : Nat) : wholeN D (geti [] (k : Int)) = D.lasts := by
  have e : geti [] (k : Int) = 0 := by unfold geti; split <;> simp
  rw [e]
  unfold wholeN
  have : ∀ l : List ByteArray, keepN l 0 = 0 := fun l => by
    cases l with
    | nil => rfl
    | cons s r =>
      unfold keepN
      rw [if_neg (by omega)]
  rw [this]
  rfl

/-- A log of known. -/
structure KL (L : LogD) (c : Int) (N : Nat) : Prop where
  inv : L.Inv kf N
  next : L.next = c
  map : L.map = [(0, 2)]
  room : L.room = 1000
  ops : L.ops = []
  trim : L.trim = 0
  gone : L.gone = []

theorem kl_put {w0 w : World} {p : Nat} {L : LogD} {c : Int} {N : Nat} (h : At w0 w p L) (k : KL L c N) (hp : Pow w0) (site seq : Int) (hf : kf c = lawR site seq) (s0 : 0 ≤ site) (s1 : site < 8) (q0 : 1 ≤ seq) (q1 : seq ≤ 1048576) (hc : c ≤ 100) (hN : N ≤ 10) :
    Calls Tryz.prog 17 #[.pointer (some ⟨p, 0, none⟩), .int .i64 c, rv site seq] w fun e w' => e = .returned (.int .i64 0) ∧ ∃ L', At w0 w' p L' ∧ KL L' (c + 1) (N + 1) ∧ L'.head = L.head ∧ (∀ sy, Sy L sy → sy (L.k c) = false → Sy L' sy) ∧ (∀ sy, Sd L sy → ¬ sy (L.k c) → Sd L' sy) := by
  have hn := k.next
  subst hn
  refine (put_at h k.inv hp site seq hf s0 s1 q0 q1 (by omega) (by rw [k.room]; omega) (by omega) (by rw [k.map]; decide)).mono ?_
  rintro e w' ⟨he, hA, hI, hE⟩
  have he0 : L.putE L.next (kf L.next) = 0 := by
    refine Classical.byContradiction fun hne => ?_
    have h1 : L.putS L.next (kf L.next) = L := by unfold LogD.putS; rw [if_neg hne]
    rw [h1] at hE
    have := congrArg LogD.next hE
    dsimp only at this
    omega
  refine ⟨he, _, hA, ⟨hI, ?_, ?_, ?_, ?_, ?_, ?_⟩, ?_, fun sy h1 h2 => put_sy k.inv he0 h1 h2, fun sy h1 h2 i S hS hi => ?_⟩
  · rw [hE]
  · rw [hE]; exact k.map
  · rw [hE]; exact k.room
  · rw [hE]; exact k.ops
  · rw [hE]; exact k.trim
  · rw [hE]; exact k.gone
  · rw [hE]
  · rw [hE] at hS
    rcases set_get hS with ⟨rfl, -⟩ | ⟨-, h3⟩
    · exact absurd hi h2
    · exact h1 i S h3 hi

set_option maxRecDepth 100000 in
set_option maxHeartbeats 8000000 in
theorem logKnown_calls (w : World) (hp : Pow w) : Calls Tryz.prog 9 #[] w fun e w' => e = .returned (.bool true) ∧ Go.RowKit.Below w.heap.size w w' := by
  have kneg : (1 : Int) ≤ 2 := by decide
  go_enter Tryz.func9, Tryz.ntmps9
  go_wp2_with fail
  refine (new_at w w 2 1000 (Below.refl _ w) (by decide) (by decide) (by decide) (by decide)).mono ?_
  rintro e w1 ⟨p, rfl, A1⟩
  have K1 : Hid (KL (newL 2 1000) 0 0) := hide ⟨inv_new kf (by decide) (by decide), rfl, rfl, rfl, rfl, rfl, rfl⟩
  have S1 : Hid (Sy (newL 2 1000) fun _ => false) := hide (new_sy 2 1000)
  replace A1 := hide (A1)
  go_wp2_with fail
  refine (r6_calls 0 1 w1).mono ?_
  rintro e w2 ⟨rfl, b2⟩
  go_wp2_with fail
  refine (kl_put (A1.out.keep b2) K1.out hp 0 1 rfl (by decide) (by decide) (by decide) (by decide) (by decide) (by decide)).mono ?_
  rintro e w3 ⟨rfl, L3, A3, K3, H3, Y3, -⟩
  replace A3 := hide (A3)
  replace K3 := hide (K3)
  have S3 := hide (Y3 _ S1.out rfl)
  replace H3 := hide (H3)
  clear Y3 b2 A1 S1 K1
  go_wp2_with fail
  refine (r6_calls 0 2 w3).mono ?_
  rintro e w4 ⟨rfl, b4⟩
  go_wp2_with fail
  refine (kl_put (A3.out.keep b4) K3.out hp 0 2 rfl (by decide) (by decide) (by decide) (by decide) (by decide) (by decide)).mono ?_
  rintro e w5 ⟨rfl, L5, A5, K5, H5, Y5, -⟩
  replace A5 := hide (A5)
  replace K5 := hide (K5)
  have S5 := hide (Y5 _ S3.out rfl)
  replace H5 := hide ((H5.trans H3.out))
  clear Y5 b4 A3 S3 K3 H3
  go_wp2_with fail
  refine (r6_calls 1 1 w5).mono ?_
  rintro e w6 ⟨rfl, b6⟩
  go_wp2_with fail
  refine (kl_put (A5.out.keep b6) K5.out hp 1 1 rfl (by decide) (by decide) (by decide) (by decide) (by decide) (by decide)).mono ?_
  rintro e w7 ⟨rfl, L7, A7, K7, H7, Y7, -⟩
  replace A7 := hide (A7)
  replace K7 := hide (K7)
  have S7 := hide (Y7 _ S5.out rfl)
  replace H7 := hide ((H7.trans H5.out))
  clear Y7 b6 A5 S5 K5 H5
  go_wp2_with fail
  refine (r6_calls 1 2 w7).mono ?_
  rintro e w8 ⟨rfl, b8⟩
  have e8 : L7.putE 5 (lawR 1 2) = 1 := by
    unfold LogD.putE
    rw [if_neg (by rw [K7.out.inv.down]; decide), if_pos (by rw [K7.out.next]; decide)]
  go_wp2_with fail
  refine (put_not (A7.out.keep b8) K7.out.inv.fm (fun _ => K7.out.inv.up) hp 5 1 2 (by rw [e8]; decide)).mono ?_
  rw [e8]
  rintro e w9 ⟨rfl, A9⟩
  replace A9 := hide (A9)
  clear A7 b8
  go_wp2_with fail
  refine (head_at A9.out).mono ?_
  rw [show L7.head = 0 from H7.out]
  rintro e w10 ⟨rfl, rfl⟩
  go_wp2_with fail
  refine (sync_at A9.out K7.out.inv 0 (by decide)).mono ?_
  rintro e w11 ⟨rfl, h1, A11, I11⟩
  have K11 : KL (L7.syncS 0 h1) 3 3 := ⟨I11, K7.out.next, K7.out.map, K7.out.room, K7.out.ops, K7.out.trim, K7.out.gone⟩
  have S11 := sync_sy (k := 0) K7.out.inv.fm.eight S7.out (by decide) h1
  have hd11 : (L7.syncS 0 h1).head = 1 := by
    have hk : ∀ q : Int, 0 ≤ q → (L7.syncS 0 h1).k q = (q % 2).toNat := fun q h => k_one K11.map (by decide) (by decide) h
    refine head_is I11 S11 (by rw [K11.trim]; decide) (by rw [K11.next]; decide) (fun q q0 q1 => ?_) (.inr ?_)
    · rw [K11.trim] at q0
      have : q = 0 := by omega
      rw [this, hk 0 (by decide)]
      rfl
    · rw [hk 1 (by decide)]
      rfl
  generalize L7.syncS 0 h1 = L11 at *
  clear S11 S7 K7 H7 A9 I11
  replace A11 := hide A11
  replace K11 := hide K11
  replace hd11 := hide hd11
  go_wp2_with fail
  refine (head_at A11.out).mono ?_
  rw [hd11.out]
  rintro e w12 ⟨rfl, rfl⟩
  go_wp2_with fail
  refine (crash_at A11.out K11.out.inv (.slice none 0 0) [] (fun W _ => nums_nil W) (by decide) (fun x hx => by cases hx)).mono ?_
  rintro e w13 ⟨rfl, A13⟩
  replace A13 := hide A13
  clear A11
  go_wp2_with fail
  refine (r6_calls 0 2 w13).mono ?_
  rintro e w14 ⟨rfl, b14⟩
  have e14 : (L11.crash []).putE 1 (lawR 0 2) = 11 := rfl
  go_wp2_with fail
  refine (put_not (A13.out.keep b14) (crash_fm K11.out.inv []) (fun h => by cases h) hp 1 0 2 (by rw [e14]; decide)).mono ?_
  rw [e14]
  rintro e w15 ⟨rfl, A15⟩
  replace A15 := hide A15
  clear A13 b14
  go_wp2_with fail
  refine (recover_at [] A15.out K11.out.inv hp (by rw [K11.out.room]; decide) (by rw [K11.out.next]; decide)).mono ?_
  rintro e w16 ⟨rfl, h2, Rs, A16, I16, -, -, hall, hz⟩
  have hz2 : h2 = 1 := (hz fun k S _ => whole_zero S.D k).trans hd11.out
  have K16 : KL ⟨L11.room, L11.ops, Rs, L11.map, false, L11.trim, L11.gone, h2, h2⟩ 1 4 := ⟨I16, hz2, K11.out.map, K11.out.room, K11.out.ops, K11.out.trim, K11.out.gone⟩
  have S16 : Sd ⟨L11.room, L11.ops, Rs, L11.map, false, L11.trim, L11.gone, h2, h2⟩ fun i => i ≠ 1 := fun i S hS _ => hall S (List.mem_of_getElem? hS)
  clear hz hall I16
  generalize (⟨L11.room, L11.ops, Rs, L11.map, false, L11.trim, L11.gone, h2, h2⟩ : LogD) = L16 at *
  replace A16 := hide A16
  replace K16 := hide K16
  replace S16 := hide S16
  clear A15 K11 hd11 hz2
  go_wp2_with fail
  refine (next_at A16.out).mono ?_
  rw [K16.out.next]
  rintro e w17 ⟨rfl, rfl⟩
  go_wp2_with fail
  refine (r6_calls 0 2 w17).mono ?_
  rintro e w18 ⟨rfl, b18⟩
  go_wp2_with fail
  refine (kl_put (A16.out.keep b18) K16.out hp 0 2 rfl (by decide) (by decide) (by decide) (by decide) (by decide) (by decide)).mono ?_
  rintro e w19 ⟨rfl, L19, A19, K19, -, -, Y19⟩
  have S19 := Y19 _ S16.out (fun h => h (k_one K16.out.map (by decide) (by decide) (by decide)))
  replace A19 := hide A19
  replace K19 := hide K19
  replace S19 := hide S19
  clear Y19 b18 A16 S16 K16
  go_wp2_with fail
  refine (sync_at A19.out K19.out.inv 1 (by decide)).mono ?_
  rintro e w20 ⟨rfl, h3, A20, I20⟩
  have K20 : KL (L19.syncS 1 h3) 2 5 := ⟨I20, K19.out.next, K19.out.map, K19.out.room, K19.out.ops, K19.out.trim, K19.out.gone⟩
  have S20 := sync_sd S19.out 1 h3
  have hd20 : (L19.syncS 1 h3).head = 2 := by
    have := (sd_all I20 (fun i S hS hi => S20 i S hS (Classical.em (i = 1)))).2
    rw [this]
    exact K20.next
  generalize L19.syncS 1 h3 = L20 at *
  clear S20 S19 K19 A19 I20
  replace A20 := hide A20
  replace K20 := hide K20
  replace hd20 := hide hd20
  have hvec : ∀ q : Nat, (q : Int) ≤ 2 → L20.vecTo q = takeIn [] ((List.range q).map fun (i : Nat) => ((i : Int), kf i)) := fun q hq => by
    unfold LogD.vecTo
    rw [K20.out.gone, K20.out.inv.recs (by rw [K20.out.next, K20.out.trim]; omega), K20.out.trim]
    simp
  have hv2 : L20.vecTo 2 = [2] := (hvec 2 (by decide)).trans (by decide +kernel)
  have hv1 : L20.vecTo 1 = [1] := (hvec 1 (by decide)).trans (by decide +kernel)
  clear hvec
  replace hv2 := hide hv2
  replace hv1 := hide hv1
  go_wp2_with fail
  refine (vec_at A20.out K20.out.inv kf_dep).mono ?_
  rw [hd20.out, hv2.out]
  rintro e w21 ⟨vv, rfl, n21, b21⟩
  obtain ⟨va, vc, rfl⟩ := ownsRow_slice n21
  replace A21 := hide (A20.out.keep b21)
  replace n21 := hide n21
  clear A20 b21
  go_wp2_with fail
  have bl := box_below w21 (.cells #[.int .i64 1] 3)
  have hown : writeE L20.own (textO (.trim 1 (L20.vecTo 1))) = 0 := by
    rw [hv1.out]
    unfold LogD.own
    rw [K20.out.room, K20.out.ops]
    decide +kernel
  refine (trim_at (A21.out.keep bl) K20.out.inv hp kf_dep 1 _ [1] (nums_lit w21 1) (by decide) (by rw [K20.out.trim]; decide) (by rw [hd20.out]; decide) (by rw [hv1.out]; decide +kernel) (by rw [hv1.out]; intro x hx; rw [List.mem_singleton.1 hx]; decide) (by rw [hv1.out]; decide) (by rw [hv1.out]; decide +kernel) hown (by rw [K20.out.room]; decide) (by rw [K20.out.next]; decide)).mono ?_
  rintro e w22 ⟨rfl, h4, A22, I22, hle, kp22⟩
  have hle2 := I22.fm.next0
  have h42 : h4 = 2 := by
    have e1 : (L20.trimS 1 h4).next = 2 := K20.out.next
    have e2 : (L20.trimS 1 h4).head = h4 := rfl
    rw [hd20.out] at hle
    omega
  have g22 : (L20.trimS 1 h4).gone = [1] := hv1.out
  have o22 : (L20.trimS 1 h4).ops = [.trim 1 [1]] := by
    show L20.ops ++ [.trim 1 (L20.vecTo 1)] = _
    rw [K20.out.ops, hv1.out]
    rfl
  have m22 : (L20.trimS 1 h4).map = [(0, 2)] := K20.out.map
  have r22 : (L20.trimS 1 h4).room = 1000 := K20.out.room
  have x22 : (L20.trimS 1 h4).next = 2 := K20.out.next
  have d22 : (L20.trimS 1 h4).head = 2 := h42
  have t22 : (L20.trimS 1 h4).trim = 1 := rfl
  have n22 := kp22.row (own_below n21.out bl)
  generalize L20.trimS 1 h4 = L22 at *
  clear A21 n21 bl hown hle hle2 h42 kp22 K20 hd20 hv2 hv1
  replace A22 := hide A22
  replace I22 := hide I22
  replace n22 := hide n22
  have F22 := hide (And.intro g22 (And.intro o22 (And.intro m22 (And.intro r22 (And.intro x22 (And.intro d22 t22))))))
  clear g22 o22 m22 r22 x22 d22 t22
  go_wp2_with fail
  refine (trimmed_at A22.out I22.out).mono ?_
  rw [F22.out.1, F22.out.2.2.2.2.2.2]
  rintro e w23 ⟨vt, rfl, n23, b23⟩
  obtain ⟨ta, tc, rfl⟩ := ownsRow_slice n23
  have A23 := hide (A22.out.keep b23)
  have n22' := hide (own_below n22.out b23)
  replace n23 := hide n23
  clear A22 n22 b23
  go_wp2_with fail
  have hown : writeE L22.own (textO (.map (L22.map ++ [(L22.next, 3)]))) = 0 := by
    unfold LogD.own
    rw [F22.out.2.2.2.1, F22.out.2.1, F22.out.2.2.1, F22.out.2.2.2.2.1]
    decide +kernel
  refine (resize_at A23.out I22.out hp 3 (by rw [F22.out.2.2.2.2.2.1, F22.out.2.2.2.2.1]) (by decide) (by decide) (by rw [F22.out.2.2.2.1]; decide) (by rw [F22.out.2.2.2.2.1]; decide) (by rw [F22.out.2.2.1]; decide) hown).mono ?_
  rintro e w24 ⟨rfl, A24, I24, -, kp24⟩
  have n24 := hide (kp24.row n22'.out)
  have t24 := hide (kp24.row n23.out)
  have m24 : (L22.resizeS 3).map = [(0, 2), (2, 3)] := by
    show L22.map ++ [(L22.next, 3)] = _
    rw [F22.out.2.2.1, F22.out.2.2.2.2.1]
    rfl
  have tr24 : (L22.resizeS 3).trim = 1 := F22.out.2.2.2.2.2.2
  generalize L22.resizeS 3 = L24 at *
  clear A23 n22' n23 kp24 hown F22 I22
  replace A24 := hide A24
  replace I24 := hide I24
  replace m24 := hide m24
  replace tr24 := hide tr24
  go_wp2_with fail
  have g24 : L24.get 0 = (zeroR, 8) := I24.out.get_trim (by decide) (by rw [tr24.out]; decide)
  refine (get_at A24.out I24.out.fm (fun _ => I24.out.up) 0 (by decide)).mono ?_
  rw [g24]
  rintro e w25 ⟨vr, rfl, hvr, b25⟩
  obtain ⟨xa, xc, rfl, -⟩ := hvr
  have A25 := hide (A24.out.keep b25)
  have n25 := hide (own_below n24.out b25)
  have t25 := hide (own_below t24.out b25)
  clear A24 n24 t24 b25 g24
  go_wp2_with fail
  obtain ⟨W26, hW26⟩ : ∃ W26, w25.alloc (.cells #[.int .i64 zeroR.site, .int .i64 zeroR.seq, .slice xa zeroR.dep.length xc, .string zeroR.key, .string zeroR.val] 36) = W26 := ⟨_, rfl⟩
  have b26 : Go.RowKit.Below w25.heap.size w25 W26 := by rw [← hW26]; exact box_below _ _
  have s26 : W26.heap.size = w25.heap.size + 1 := by rw [← hW26]; simp
  rw [hW26]
  have bl26 := box_below W26 (.cells #[.int .i64 2] 3)
  have n26 := own_below n25.out (b26.trans (bl26.mono b26.size))
  have l26 := nums_lit W26 2
  rw [s26] at l26
  have A27 := hide (A25.out.keep (b26.trans (bl26.mono b26.size)))
  have t27 := hide (own_below t25.out (b26.trans (bl26.mono b26.size)))
  refine (refSame_calls _ _ [2] [2] _ (IsNums.of_row n26) l26 (by decide) (by decide)).mono ?_
  rw [show everyB eqB [2] [2] = true from rfl]
  rintro e w27 ⟨rfl, hw27⟩
  rw [← hw27] at A27 t27
  clear hw27 l26 n26 bl26 b26 s26 hW26 n25 t25 A25
  go_wp2_with fail
  have bl27 := box_below w27 (.cells #[.int .i64 1] 3)
  refine (refSame_calls _ _ [1] [1] _ (IsNums.of_row (own_below t27.out bl27)) (nums_lit w27 1) (by decide) (by decide)).mono ?_
  rw [show everyB eqB [1] [1] = true from rfl]
  rintro e w28 ⟨rfl, hw28⟩
  have A28 := hide (A27.out.keep bl27)
  rw [← hw28] at A28
  clear hw28 bl27 A27 t27
  go_wp2_with fail
  refine (stripes_at A28.out I24.out).mono ?_
  rw [m24.out, show stripesM [(0, 2), (2, 3)] = 3 from rfl]
  rintro e w29 ⟨rfl, n29, rfl⟩
  have A29 := hide (A28.out.keep (drewsB w28 n29))
  clear A28
  go_wp2_with fail
  refine (epoch_at A29.out).mono ?_
  rw [m24.out]
  rintro e w30 ⟨rfl, rfl⟩
  go_wp2_with fail
  refine (down_at A29.out).mono ?_
  rw [I24.out.down]
  rintro e w31 ⟨rfl, rfl⟩
  go_wp2_with fail
  go_ret
  exact ⟨rfl, A29.out.below⟩

end Go.Proofs.YtjbjjfndkpcciaaGreatDoor

/- Logs of one epoch, as the laws fill them. Own work; no statement. -/
set_option linter.unusedSimpArgs false
set_option linter.unusedVariables false
namespace Go.Proofs.YtjbjjfndkpcciaaGreatDoor
open Go.RowKit Go.Shelf Go.Sort

/-- The records of the laws' filled logs. -/
def sf (p : Int) : RecD := lawR 0 (p + 1)
theorem sf_dep (p : Int) : (sf p).dep.length ≤ 17592186044416 := by simp [sf, lawR]

/-- A log of one epoch. -/
structure ST (L : LogD) (k room c : Int) (N : Nat) : Prop where
  inv : L.Inv sf N
  next : L.next = c
  map : L.map = [(0, k)]
  room : L.room = room
  ops : L.ops = []
  trim : L.trim = 0
  gone : L.gone = []

theorem st_put {w0 w : World} {p : Nat} {L : LogD} {k room c : Int} {N : Nat} (h : At w0 w p L) (t : ST L k room c N) (hp : Pow w0) (hc : c ≤ 1000) (hN : 81 * ((N : Int) + 1) ≤ room) (hN2 : N ≤ 1000) :
    Calls Tryz.prog 17 #[.pointer (some ⟨p, 0, none⟩), .int .i64 c, rv 0 (c + 1)] w fun e w' => e = .returned (.int .i64 0) ∧ ∃ L', At w0 w' p L' ∧ ST L' k room (c + 1) (N + 1) ∧ (∀ sy, Sy L sy → sy (L.k c) = false → Sy L' sy) ∧ (Full L → Full L') := by
  have hn := t.next
  subst hn
  have h0 : 0 ≤ L.next := by have := t.inv.fm.trim0; have := t.inv.fm.head0; have := t.inv.fm.next0; omega
  refine (put_at h t.inv hp 0 (L.next + 1) rfl (by decide) (by decide) (by omega) (by omega) (by omega) (by rw [t.room]; omega) (by omega) (by rw [t.map]; simp)).mono ?_
  rintro e w' ⟨he, hA, hI, hE⟩
  have he0 : L.putE L.next (sf L.next) = 0 := by
    refine Classical.byContradiction fun hne => ?_
    have h1 : L.putS L.next (sf L.next) = L := by unfold LogD.putS; rw [if_neg hne]
    rw [h1] at hE
    have := congrArg LogD.next hE
    dsimp only at this
    omega
  refine ⟨he, _, hA, ⟨hI, ?_, ?_, ?_, ?_, ?_, ?_⟩, fun sy h1 h2 => put_sy t.inv he0 h1 h2, fun h1 => put_full t.inv he0 h1⟩
  · rw [hE]
  · rw [hE]; exact t.map
  · rw [hE]; exact t.room
  · rw [hE]; exact t.ops
  · rw [hE]; exact t.trim
  · rw [hE]; exact t.gone
theorem st_sync {L : LogD} {k room c : Int} {N : Nat} (t : ST L k room c N) {j : Nat} {h' : Int} (hI : (L.syncS j h').Inv sf N) : ST (L.syncS j h') k room c N := ⟨hI, t.next, t.map, t.room, t.ops, t.trim, t.gone⟩

/-- One epoch: does something wait there? -/
theorem st_waits {L : LogD} {k room c : Int} {N : Nat} (t : ST L k room c N) (h1 : 1 ≤ k) (h8 : k ≤ 8) {sy : Nat → Bool} (hs : Sy L sy) (hf : Full L) {j : Nat} (hj : j < 8) :
    decide ((L.segs.getD j noSeg).D.lasts < (L.segs.getD j noSeg).D.lines.length) = (!sy j && (decide ((j : Int) < k) && decide ((j : Int) < c))) := by
  have h := waits_sy t.inv hs hf hj
  rw [Bool.eq_iff_iff, decide_eq_true_iff, h, t.trim, t.next]
  simp only [Bool.and_eq_true, Bool.not_eq_true', decide_eq_true_eq]
  constructor
  · rintro ⟨q1, p, q2, q3, q4⟩
    rw [k_one t.map h1 h8 q2] at q4
    have e1 := Int.emod_nonneg p (show k ≠ 0 by omega)
    have e2 := Int.emod_lt_of_pos p (show 0 < k by omega)
    have e3 : p % k ≤ p := by
      rcases Int.lt_or_le p k with h | h
      · rw [Int.emod_eq_of_lt q2 h]; omega
      · omega
    exact ⟨q1, by omega, by omega⟩
  · rintro ⟨q1, q2, q3⟩
    refine ⟨q1, j, by omega, q3, ?_⟩
    rw [k_one t.map h1 h8 (by omega), Int.emod_eq_of_lt (by omega) q2]
    simp

theorem rem_nat {n m : Int} (h : 0 ≤ n) (hm : 0 < m) : ∃ k : Nat, Int.tmod n m = (k : Int) ∧ (k : Int) < m := by
  have h1 := Int.emod_nonneg n (show m ≠ 0 by omega)
  have h2 := Int.emod_lt_of_pos n hm
  refine ⟨(n % m).toNat, ?_, by omega⟩
  rw [Int.tmod_eq_emod_of_nonneg h]
  omega

/-- A log of whatever records. -/
structure PT (L : LogD) (f : Int → RecD) (mp : MapD) (room c : Int) (N : Nat) : Prop where
  inv : L.Inv f N
  next : L.next = c
  map : L.map = mp
  room : L.room = room
  trim : L.trim = 0
theorem pt_put {w0 w : World} {p : Nat} {L : LogD} {f : Int → RecD} {mp : MapD} {room c : Int} {N : Nat} (h : At w0 w p L) (t : PT L f mp room c N) (hp : Pow w0) (site seq : Int) (hf : f c = lawR site seq) (s0 : 0 ≤ site) (s1 : site < 8) (q0 : 1 ≤ seq) (q1 : seq ≤ 1048576) (hc : c ≤ 1000) (hm : mp.length ≤ 1000) (hN : 81 * ((N : Int) + 1) ≤ room) (hN2 : N ≤ 1000) :
    Calls Tryz.prog 17 #[.pointer (some ⟨p, 0, none⟩), .int .i64 c, rv site seq] w fun e w' => e = .returned (.int .i64 0) ∧ ∃ L', At w0 w' p L' ∧ PT L' f mp room (c + 1) (N + 1) ∧ L'.head = L.head ∧ L'.ops = L.ops ∧ L'.gone = L.gone := by
  have hn := t.next
  subst hn
  refine (put_at h t.inv hp site seq hf s0 s1 q0 q1 (by omega) (by rw [t.room]; omega) (by omega) (by rw [t.map]; omega)).mono ?_
  rintro e w' ⟨he, hA, hI, hE⟩
  refine ⟨he, _, hA, ⟨hI, ?_, ?_, ?_, ?_⟩, ?_, ?_, ?_⟩
  · rw [hE]
  · rw [hE]; exact t.map
  · rw [hE]; exact t.room
  · rw [hE]; exact t.trim
  · rw [hE]
  · rw [hE]
  · rw [hE]

end Go.Proofs.YtjbjjfndkpcciaaGreatDoor

/- LogHoles: the walk. Own work; no statement. -/
set_option linter.unusedSimpArgs false
set_option linter.unusedVariables false
namespace Go.Proofs.YtjbjjfndkpcciaaGreatDoor
open Go.RowKit Go.Shelf Go.Sort

/-- A bit of a number. -/
def bitOf (n : Int) (i : Nat) : Bool := bits BinOp.and IntKind.u8 (n / 2 ^ i) 1 == 1

set_option maxRecDepth 100000 in
set_option maxHeartbeats 8000000 in
theorem logHoles_main (st : Int) (n : Int) (wh : Int) (w : World) (ws : (Lit.int .u8 st).wf = true) (wn : (Lit.int .u8 n).wf = true) (ww : (Lit.int .u8 wh).wf = true) (hp : Pow w) :
    Calls Tryz.prog 8 #[.int .u8 st, .int .u8 n, .int .u8 wh] w fun e w' => e = .returned (.bool true) ∧ Go.RowKit.Below w.heap.size w w' := by
  have s0 : 0 ≤ st ∧ st ≤ 255 := rng8 ws
  have n0 : 0 ≤ n ∧ n ≤ 255 := rng8 wn
  have w0 : 0 ≤ wh ∧ wh ≤ 255 := rng8 ww
  obtain ⟨a, ha, ha8⟩ := rem_nat s0.1 (show (0 : Int) < 8 by decide)
  obtain ⟨c, hc, hc40⟩ := rem_nat n0.1 (show (0 : Int) < 40 by decide)
  have hk1 : (1 : Int) ≤ 1 + (a : Int) := by omega
  have hk8 : 1 + (a : Int) ≤ 8 := by omega
  go_enter Tryz.func8, Tryz.ntmps8
  go_wp2_with fail
  refine (logKnown_calls w hp).mono ?_
  rintro e w1 ⟨rfl, b1⟩
  have hp1 : Pow w1 := hp.below b1
  go_wp2_with fail
  refine (new_at w1 w1 (1 + (a : Int)) 100000 (Below.refl _ w1) hk1 hk8 (by decide) (by decide)).mono ?_
  rintro e w2 ⟨p, rfl, A2⟩
  have T2 : Hid (ST (newL (1 + (a : Int)) 100000) (1 + (a : Int)) 100000 0 0) := hide ⟨inv_new sf hk1 hk8, rfl, rfl, rfl, rfl, rfl, rfl⟩
  have A2 := hide A2
  go_wp2_with fail
  have S2 : Hid (Sy (newL (1 + (a : Int)) 100000) fun _ => false) := hide (new_sy _ _)
  have hcs : (c : Int) ≤ 39 := by omega
  go_loopw [11] (fun i wr => ∃ (j : Nat) (L : LogD), j ≤ c ∧ i = .int .i64 (j : Int) ∧ At w1 wr p L ∧ ST L (1 + (a : Int)) 100000 (j : Int) j ∧ Sy L (fun _ => false)) (fun i _ => c - (intOf i).toNat)
  case atStart => exact ⟨0, _, Nat.zero_le _, rfl, A2.out, T2.out, S2.out⟩
  case round =>
    obtain ⟨j, L, hj, rfl, hA, hT, hS⟩ := hrel
    clear A2 T2 S2
    have HA := hide hA
    have HT := hide hT
    have HS := hide hS
    clear hA hT hS
    by_cases hlt : j < c
    · have hltI : (j : Int) < (c : Int) := by omega
      go_wp2_with fail
      refine (r6_calls 0 ((j : Int) + 1) _).mono ?_
      rintro e w3 ⟨rfl, b3⟩
      have u := hide (st_put (HA.out.keep b3) HT.out hp1 (by omega) (by omega) (by omega))
      clear b3
      go_wp2_with fail
      refine u.out.mono ?_
      rintro e w4 ⟨rfl, L4, A4, T4, Y4, F4⟩
      have HY := hide (Y4 _ HS.out rfl)
      have HA4 := hide A4
      have HT4 := hide T4
      clear A4 T4 Y4 F4 u
      go_wp2_with fail
      exact ⟨⟨j + 1, L4, by omega, by go_num, HA4.out, by rw [Int.natCast_succ]; exact HT4.out, HY.out⟩, by simp [intOf]; omega⟩
    · obtain rfl : j = c := by omega
      go_wp2_with fail
      go_loopw [12, 13] (fun hv i wr => ∃ (q hole : Nat) (M : LogD), q ≤ a + 1 ∧ i = .int .i64 ((q : Int) - 1) ∧ hv = .int .i64 (hole : Int) ∧ At w1 wr p M ∧ ST M (1 + (a : Int)) 100000 (j : Int) j ∧ Sy M (fun i => decide (q ≤ i ∧ i < a + 1) && bitOf wh i) ∧ (hole = j ∨ (q ≤ hole ∧ hole < j ∧ hole < a + 1 ∧ bitOf wh hole = false)) ∧ (∀ i, q ≤ i → i < a + 1 → i < hole → bitOf wh i = true)) (fun _ i _ => (intOf i + 1).toNat)
      case atStart => exact ⟨a + 1, j, L, Nat.le_refl _, by go_num, rfl, HA.out, HT.out, (by
        refine fun i S hS => ?_
        have e : (decide (a + 1 ≤ i ∧ i < a + 1) && bitOf wh i) = false := by
          rw [decide_eq_false (by omega)]
          rfl
        show S.D.lasts = if (decide (a + 1 ≤ i ∧ i < a + 1) && bitOf wh i) = true then S.D.lines.length else 0
        rw [e]
        exact HS.out i S hS), .inl rfl, fun i h1 h2 => by omega⟩
      case round =>
        obtain ⟨q, hole, M, hq, rfl, rfl, hA, hT, hS, hh, hb⟩ := hrel
        clear HA HT HS
        have HA := hide hA
        have HT := hide hT
        have HS := hide hS
        have HH := hide hh
        have HB := hide hb
        clear hA hT hS hh hb
        by_cases hq0 : q = 0
        · have hqI : ¬ (0 : Int) ≤ (q : Int) - 1 := by omega
          have hq0' : q = 0 := hq0
          have hhead : M.head = (hole : Int) := by
            have hk : ∀ x : Int, 0 ≤ x → M.k x = (x % (1 + (a : Int))).toNat := fun x h => k_one HT.out.map hk1 hk8 h
            have hlej : hole ≤ j := by rcases HH.out with h | h <;> omega
            refine head_is HT.out.inv HS.out (by rw [HT.out.trim]; omega) (by rw [HT.out.next]; omega) (fun x x0 x1 => ?_) ?_
            · rw [HT.out.trim] at x0
              have e1 := Int.emod_nonneg x (show 1 + (a : Int) ≠ 0 by omega)
              have e2 := Int.emod_lt_of_pos x (show 0 < 1 + (a : Int) by omega)
              have e3 : x % (1 + (a : Int)) ≤ x := by
                rcases Int.lt_or_le x (1 + (a : Int)) with h | h
                · rw [Int.emod_eq_of_lt x0 h]; omega
                · omega
              rw [hk x x0, HB.out _ (by omega) (by omega) (by omega), decide_eq_true (by omega)]
              rfl
            · rcases HH.out with h | h
              · exact .inl (by rw [HT.out.next, h])
              · refine .inr ?_
                rw [hk _ (by omega), Int.emod_eq_of_lt (by omega) (by omega), Int.toNat_natCast, h.2.2.2, Bool.and_false]
          have Hh := hide hhead
          have hle : hole ≤ j := by rcases HH.out with h | h <;> omega
          clear hhead
          go_wp2_with fail
          refine (crash_at HA.out HT.out.inv (.slice none 0 0) [] (fun W _ => nums_nil W) (by decide) (fun x hx => by cases hx)).mono ?_
          rintro e w5 ⟨rfl, A5⟩
          have HA5 := hide A5
          clear A5
          go_wp2_with fail
          refine (recover_at [] HA5.out HT.out.inv hp1 (by rw [HT.out.room]; omega) (by rw [HT.out.next]; omega)).mono ?_
          rintro e w6 ⟨rfl, h', Rs, A6, I6, -, -, -, hz⟩
          have hz2 : h' = (hole : Int) := (hz fun k S _ => whole_zero S.D k).trans Hh.out
          have I7 : LogD.Inv ⟨M.room, M.ops, Rs, M.map, false, M.trim, M.gone, h', h'⟩ (fun x => if x < (hole : Int) then sf x else lawR 1 (x - hole + 1)) (j + 1) := I6.same fun x _ hx => by
            have hx : x < h' := hx
            rw [if_pos (by omega)]
          have n7 : (⟨M.room, M.ops, Rs, M.map, false, M.trim, M.gone, h', h'⟩ : LogD).next = (hole : Int) := hz2
          have d7 : (⟨M.room, M.ops, Rs, M.map, false, M.trim, M.gone, h', h'⟩ : LogD).head = (hole : Int) := hz2
          have r7 : (⟨M.room, M.ops, Rs, M.map, false, M.trim, M.gone, h', h'⟩ : LogD).room = 100000 := HT.out.room
          have m7 : (⟨M.room, M.ops, Rs, M.map, false, M.trim, M.gone, h', h'⟩ : LogD).map = [(0, 1 + (a : Int))] := HT.out.map
          have t7 : (⟨M.room, M.ops, Rs, M.map, false, M.trim, M.gone, h', h'⟩ : LogD).trim = 0 := HT.out.trim
          generalize (⟨M.room, M.ops, Rs, M.map, false, M.trim, M.gone, h', h'⟩ : LogD) = L7 at *
          have HA7 := hide A6
          have F7 := hide (And.intro I7 (And.intro n7 (And.intro d7 (And.intro r7 (And.intro m7 t7)))))
          clear A6 I6 I7 n7 d7 r7 m7 t7 hz hz2 HA5 HA HT HS HH HB Hh
          go_wp2_with fail
          refine (next_at HA7.out).mono ?_
          rw [F7.out.2.1]
          rintro e w7 ⟨rfl, rfl⟩
          go_wp2_with fail
          refine (head_at HA7.out).mono ?_
          rw [F7.out.2.2.1]
          rintro e w8 ⟨rfl, rfl⟩
          go_wp2_with fail
          have P7 : Hid (PT L7 (fun x => if x < (hole : Int) then sf x else lawR 1 (x - hole + 1)) [(0, 1 + (a : Int))] 100000 (hole : Int) (j + 1)) := hide ⟨F7.out.1, F7.out.2.1, F7.out.2.2.2.2.1, F7.out.2.2.2.1, F7.out.2.2.2.2.2⟩
          clear F7
          go_loopw [14] (fun i wr => ∃ (r : Nat) (X : LogD), r ≤ 3 ∧ i = .int .i64 ((hole : Int) + (r : Int)) ∧ At w1 wr p X ∧ PT X (fun x => if x < (hole : Int) then sf x else lawR 1 (x - hole + 1)) [(0, 1 + (a : Int))] 100000 ((hole : Int) + (r : Int)) (j + 1 + r)) (fun i _ => ((hole : Int) + 3 - intOf i).toNat)
          case atStart => exact ⟨0, L7, by omega, by go_num, HA7.out, by simpa using P7.out⟩
          case round =>
            obtain ⟨r, X, hr, rfl, hA, hP⟩ := hrel
            clear HA7 P7
            have HA := hide hA
            have HP := hide hP
            clear hA hP
            by_cases hr3 : r < 3
            · have hrI : (hole : Int) + (r : Int) < (hole : Int) + 3 := by omega
              have hseq : (hole : Int) + (r : Int) - (hole : Int) + 1 = (r : Int) + 1 := by omega
              go_wp2_with fail
              refine (r6_calls 1 ((r : Int) + 1) _).mono ?_
              rintro e w9 ⟨rfl, b9⟩
              have u := hide (pt_put (HA.out.keep b9) HP.out hp1 1 ((r : Int) + 1) (by
                rw [if_neg (by omega), hseq]) (by decide) (by decide) (by omega) (by omega) (by omega) (by simp) (by omega) (by omega))
              clear b9
              go_wp2_with fail
              refine u.out.mono ?_
              rintro e w10 ⟨rfl, X', A10, P10, -⟩
              have HA10 := hide A10
              have HP10 := hide P10
              clear A10 P10 u
              go_wp2_with fail
              exact ⟨⟨r + 1, X', by omega, by go_num, HA10.out, by rw [Int.natCast_succ, ← Int.add_assoc]; exact HP10.out⟩, by simp [intOf]; omega⟩
            · have hrI : ¬ (hole : Int) + (r : Int) < (hole : Int) + 3 := by omega
              obtain rfl : r = 3 := by omega
              go_wp2_with fail
              go_loopw [15] (fun i wr => ∃ (q : Nat) (Y : LogD), q ≤ 8 ∧ i = .int .i64 (q : Int) ∧ At w1 wr p Y ∧ PT Y (fun x => if x < (hole : Int) then sf x else lawR 1 (x - hole + 1)) [(0, 1 + (a : Int))] 100000 ((hole : Int) + 3) (j + 4) ∧ Sd Y (fun i => i < q)) (fun i _ => 8 - (intOf i).toNat)
              case atStart => exact ⟨0, X, by omega, rfl, HA.out, HP.out, fun i S _ h => absurd h (Nat.not_lt_zero i)⟩
              case round =>
                obtain ⟨q, Y, hq, rfl, hA, hP, hS⟩ := hrel
                clear HA HP
                have HA := hide hA
                have HP := hide hP
                have HS := hide hS
                clear hA hP hS
                by_cases hq8 : q < 8
                · have hq8I : (q : Int) < 8 := by omega
                  have u := hide (sync_at HA.out HP.out.inv q hq8)
                  go_wp2_with fail
                  refine u.out.mono ?_
                  rintro e w11 ⟨rfl, h', A11, I11⟩
                  have HA11 := hide A11
                  have HP11 : Hid (PT (Y.syncS q h') (fun x => if x < (hole : Int) then sf x else lawR 1 (x - hole + 1)) [(0, 1 + (a : Int))] 100000 ((hole : Int) + 3) (j + 4)) := hide ⟨I11, HP.out.next, HP.out.map, HP.out.room, HP.out.trim⟩
                  have HS11 : Hid (Sd (Y.syncS q h') fun i => i < q + 1) := hide fun i S hS hi => sync_sd HS.out q h' i S hS (by omega)
                  clear A11 I11 u
                  go_wp2_with fail
                  exact ⟨⟨q + 1, _, by omega, by go_num, HA11.out, HP11.out, HS11.out⟩, by simp [intOf]; omega⟩
                · have hq8I : ¬ (q : Int) < 8 := by omega
                  obtain rfl : q = 8 := by omega
                  have hsd := sd_all HP.out.inv HS.out
                  have Hsd := hide hsd
                  clear hsd
                  go_wp2_with fail
                  refine (crash_at HA.out HP.out.inv (.slice none 0 0) [] (fun W _ => nums_nil W) (by decide) (fun x hx => by cases hx)).mono ?_
                  rintro e w12 ⟨rfl, A12⟩
                  have HA12 := hide A12
                  clear A12
                  go_wp2_with fail
                  refine (recover_at [] HA12.out HP.out.inv hp1 (by rw [HP.out.room]; omega) (by rw [HP.out.next]; omega)).mono ?_
                  rintro e w13 ⟨rfl, h', Rs, A13, I13, -, -, -, hz⟩
                  have hz2 : h' = (hole : Int) + 3 := (hz fun k S _ => whole_zero S.D k).trans (Hsd.out.2.trans HP.out.next)
                  have HA13 := hide A13
                  have HI13 := hide I13
                  have Hz2 := hide hz2
                  clear A13 I13 hz hz2 HA12 HA
                  go_wp2_with fail
                  have ht13 : (0 : Int) ≤ LogD.trim ⟨Y.room, Y.ops, Rs, Y.map, false, Y.trim, Y.gone, h', h'⟩ := by show 0 ≤ Y.trim; rw [HP.out.trim]; decide
                  refine (rows_at HA13.out HI13.out ht13 (fun x => by split <;> simp [sf, lawR]) (by show (h' - Y.trim).toNat ≤ 1048576; rw [HP.out.trim, Hz2.out]; omega)).mono ?_
                  dsimp only
                  rw [HP.out.trim, Hz2.out]
                  rintro e w14 ⟨lb, rfl, b14, hrows⟩
                  have Hrows := hide hrows
                  clear hrows
                  go_wp2_with fail
                  refine (Hrows.out 100 (by omega) (by decide)).mono ?_
                  rintro e w15 ⟨va, vb, rfl, n15, r15, b15⟩
                  have hl15 : ((hole : Int) + 3 - 0).toNat = hole + 3 := by omega
                  rw [hl15] at n15 r15
                  obtain ⟨pa5, ca5, rfl, -, hat⟩ := n15
                  obtain ⟨pb5, cb5, rfl, hrow⟩ := r15
                  have hcell : ∀ t, t < hole + 3 → (∃ ba oa, pa5 = some ⟨ba, oa, none⟩ ∧ w15.cell? ⟨ba, oa + t, none⟩ = some (.int .i64 (t : Int))) ∧ ∃ bo ob, pb5 = some ⟨bo, ob, none⟩ ∧ w15.cell? ⟨bo, ob + t * 5, none⟩ = some (.int .i64 (if t < hole then 0 else 1)) ∧ w15.cell? ⟨bo, ob + t * 5 + 1, none⟩ = some (.int .i64 (if t < hole then (t : Int) + 1 else (t : Int) - (hole : Int) + 1)) := fun t ht => by
                    obtain ⟨ba, oa, e1, e2⟩ := hat t (by simp; omega)
                    obtain ⟨bo, ob, e3, a9, c9, e4, e5, -⟩ := hrow t (by simp; omega)
                    refine ⟨⟨ba, oa, e1, ?_⟩, bo, ob, e3, ?_, ?_⟩
                    · rw [e2]
                      simp [List.getD_eq_getElem?_getD, ht]
                    · rw [e4]
                      simp only [List.getElem_map, List.getElem_range, Int.zero_add]
                      by_cases h : t < hole
                      · rw [if_pos h, if_pos (by omega)]
                        rfl
                      · rw [if_neg h, if_neg (by omega)]
                        rfl
                    · rw [e5]
                      simp only [List.getElem_map, List.getElem_range, Int.zero_add]
                      by_cases h : t < hole
                      · rw [if_pos h, if_pos (by omega)]
                        rfl
                      · rw [if_neg h, if_neg (by omega)]
                        rfl
                  have la : ((List.range (hole + 3)).map fun (i : Nat) => (0 : Int) + (i : Int)).length = hole + 3 := by simp
                  have lr : ((List.range (hole + 3)).map fun (i : Nat) => (if (0 : Int) + (i : Int) < (hole : Int) then sf (0 + (i : Int)) else lawR 1 (0 + (i : Int) - hole + 1))).length = hole + 3 := by simp
                  rw [la, lr]
                  have Hcell := hide hcell
                  have HB15 : Hid (Go.RowKit.Below w.heap.size w w15) := hide (b1.trans ((HA13.out.below.trans ((b14.trans (b15.mono b14.size)).mono HA13.out.below.size)).mono b1.size))
                  have hn3 : ((hole + 3 : Nat) : Int) = (hole : Int) + 3 := by omega
                  clear hat hrow la lr hcell b1 b14 b15 HA13 HI13 Hz2 Hrows hl15 ht13 Hsd HP HS
                  go_wp2_with fail
                  go_loopw [19] (fun iv wr => ∃ (t k : Nat), t ≤ hole + 3 ∧ iv = .int .i64 (t : Int) ∧ wr = w15.drewN k) (fun iv _ => hole + 3 - (intOf iv).toNat)
                  case atStart => exact ⟨0, 0, Nat.zero_le _, rfl, rfl⟩
                  case round =>
                    obtain ⟨t, k, ht, rfl, rfl⟩ := hrel
                    by_cases htn : t < hole + 3
                    · have htI : (t : Int) < (hole : Int) + 3 := by omega
                      obtain ⟨⟨ba, oa, rfl, ca⟩, bo, ob, rfl, cs, cq⟩ := Hcell.out t htn
                      by_cases hth : t < hole
                      · rw [if_pos hth] at cs cq
                        have hthI : (t : Int) < (hole : Int) := by omega
                        have d1 : (w15.drewN k).cell? ⟨ba, oa + t, none⟩ = _ := ca
                        have d2 : (w15.drewN k).cell? ⟨bo, ob + t * 5, none⟩ = _ := cs
                        have d3 : (w15.drewN k).cell? ⟨bo, ob + t * 5 + 1, none⟩ = _ := cq
                        obtain ⟨W6, hW6⟩ : ∃ W6, w15.drewN k = W6 := ⟨_, rfl⟩
                        rw [hW6] at d1 d2 d3 ⊢
                        clear ca cs cq Hcell
                        go_wp2_with fail
                        exact ⟨⟨t + 1, k, by omega, by go_num, hW6.symm⟩, by simp [intOf]; omega⟩
                      · rw [if_neg hth] at cs cq
                        have hthI : ¬ (t : Int) < (hole : Int) := by omega
                        have d1 : (w15.drewN k).cell? ⟨ba, oa + t, none⟩ = _ := ca
                        have d2 : (w15.drewN k).cell? ⟨bo, ob + t * 5, none⟩ = _ := cs
                        have d3 : (w15.drewN k).cell? ⟨bo, ob + t * 5 + 1, none⟩ = _ := cq
                        obtain ⟨W6, hW6⟩ : ∃ W6, w15.drewN k = W6 := ⟨_, rfl⟩
                        rw [hW6] at d1 d2 d3 ⊢
                        clear ca cs cq Hcell
                        go_wp2_with fail
                        exact ⟨⟨t + 1, k, by omega, by go_num, hW6.symm⟩, by simp [intOf]; omega⟩
                    · have htI : ¬ (t : Int) < (hole : Int) + 3 := by omega
                      go_wp2_with fail
                      go_ret
                      exact ⟨rfl, HB15.out.trans ((drewsB w15 k).mono HB15.out.size)⟩
        · obtain ⟨r, rfl⟩ : ∃ r, q = r + 1 := ⟨q - 1, by omega⟩
          have hri : ((r + 1 : Nat) : Int) - 1 = (r : Int) := by omega
          have hr0 : (0 : Int) ≤ (r : Int) := by omega
          have hr8 : (r : Int) < 8 := by omega
          rw [hri]
          have hr8n : r < 8 := by omega
          have hmeas : ∀ hv : Int, (intOf (Value.int .i64 ((r : Int) - 1)) + 1).toNat < (intOf (Value.int .i64 (r : Int)) + 1).toNat := fun _ => by simp [intOf]
          cases hbit : bitOf wh r with
          | true =>
            have hbt : (bits BinOp.and IntKind.u8 (wh / 2 ^ r) 1 == 1) = true := hbit
            have u := hide (sync_at HA.out HT.out.inv r hr8n)
            have Hbit := hide hbit
            clear hbit
            go_wp2_with fail
            refine u.out.mono ?_
            rintro e w4 ⟨rfl, h', A4, I4⟩
            have HA4 := hide A4
            have HT4 := hide (st_sync HT.out I4)
            have HS4 : Hid (Sy (M.syncS r h') fun i => decide (r ≤ i ∧ i < a + 1) && bitOf wh i) := hide fun i S hS => by
              have := sync_sy HT.out.inv.fm.eight HS.out hr8n h' i S hS
              have e : (decide (r ≤ i ∧ i < a + 1) && bitOf wh i) = (if i = r then true else decide (r + 1 ≤ i ∧ i < a + 1) && bitOf wh i) := by
                split
                · rename_i h
                  rw [h, Hbit.out, decide_eq_true (by omega)]
                  rfl
                · have : decide (r ≤ i ∧ i < a + 1) = decide (r + 1 ≤ i ∧ i < a + 1) := by
                    rw [decide_eq_decide]
                    omega
                  rw [this]
              show S.D.lasts = if (decide (r ≤ i ∧ i < a + 1) && bitOf wh i) = true then S.D.lines.length else 0
              rw [e]
              exact this
            clear A4 I4 u
            go_wp2_with fail
            refine ⟨⟨r, hole, _, by omega, rfl, rfl, HA4.out, HT4.out, HS4.out, ?_, fun i h1 h2 h3 => ?_⟩, hmeas 0⟩
            · rcases HH.out with h | h
              · exact .inl h
              · exact .inr ⟨by omega, h.2⟩
            · rcases Nat.lt_or_ge r i with h4 | h4
              · exact HB.out i (by omega) h2 h3
              · obtain rfl : i = r := by omega
                exact Hbit.out
          | false =>
            have hbt : (bits BinOp.and IntKind.u8 (wh / 2 ^ r) 1 == 1) = false := hbit
            have Hbit := hide hbit
            have HS4 : Hid (Sy M fun i => decide (r ≤ i ∧ i < a + 1) && bitOf wh i) := hide fun i S hS => by
              have := HS.out i S hS
              have e : (decide (r ≤ i ∧ i < a + 1) && bitOf wh i) = (decide (r + 1 ≤ i ∧ i < a + 1) && bitOf wh i) := by
                by_cases h : i = r
                · rw [h, Hbit.out, Bool.and_false, Bool.and_false]
                · have : decide (r ≤ i ∧ i < a + 1) = decide (r + 1 ≤ i ∧ i < a + 1) := by
                    rw [decide_eq_decide]
                    omega
                  rw [this]
              show S.D.lasts = if (decide (r ≤ i ∧ i < a + 1) && bitOf wh i) = true then S.D.lines.length else 0
              rw [e]
              exact this
            clear hbit
            by_cases hrj : (r : Int) < (j : Int)
            · go_wp2_with fail
              exact ⟨⟨r, r, M, by omega, rfl, rfl, HA.out, HT.out, HS4.out, .inr ⟨Nat.le_refl _, by omega, by omega, Hbit.out⟩, fun i h1 h2 h3 => by omega⟩, hmeas 0⟩
            · go_wp2_with fail
              refine ⟨⟨r, hole, M, by omega, rfl, rfl, HA.out, HT.out, HS4.out, ?_, fun i h1 h2 h3 => ?_⟩, hmeas 0⟩
              · rcases HH.out with h | h
                · exact .inl h
                · exact .inr ⟨by omega, h.2⟩
              · rcases Nat.lt_or_ge r i with h4 | h4
                · exact HB.out i (by omega) h2 h3
                · exfalso
                  rcases HH.out with h | h <;> omega

end Go.Proofs.YtjbjjfndkpcciaaGreatDoor

/- What the proofs of the statements share: slices that came in. Own work; no statement. -/
set_option linter.unusedSimpArgs false
set_option linter.unusedVariables false
namespace Go.Proofs.YtjbjjfndkpcciaaGreatDoor
open Go.ChangeShapes Go.WideShapes Go.ChangeAt Go.RowKit

theorem own : ownKnob Tryz.prog.godebug = none := by kernel_rfl
theorem laidOut : laidOutB Tryz.prog = true := by kernel_rfl

/-- A slice of integers that came in: what it reads as; its numbers fit their kind. -/
theorem nums_of_open {H : Type} {enc : TypeId × Value → H} {W : World} {base : Nat} {sp : Nat → Bool} {held : Bool} {t e : TypeId} {k : IntKind} {fuel : Nat} {a : Option Addr} {len cap : Nat} {x : DataW H × List MemPlace}
    (ht : Tryz.prog.underlying t = some (.slice e)) (he : Tryz.prog.underlying e = some (.int k)) (hc : Tryz.prog.cellsOf e = 1) (h : DataW.trod enc Tryz.prog W base sp held fuel t [.slice a len cap] = some x) (hsp : ∀ b, sp b = true) :
    ∃ zs : List Int, IsNums k W (.slice a len cap) zs ∧ (∀ n ∈ zs, (Lit.int k n).wf = true) := by
  rcases open_ints ht he hc h with ⟨hcs, _⟩ | ⟨y, l, c, zs, hcs, _, hl, hm, hz, _, hcell, hwz⟩
  · simp at hcs
    obtain ⟨rfl, rfl, rfl⟩ := hcs
    exact ⟨[], IsNums.nil _ _ _ _, fun n hn => absurd hn (by simp)⟩
  · simp at hcs
    obtain ⟨rfl, rfl, rfl⟩ := hcs
    rw [hsp, if_pos rfl] at hz
    have hlen : (zs.take len).length = len := by simp; omega
    refine ⟨zs.take len, ⟨some y, cap, by rw [hlen], by omega, fun i hi => ?_⟩, fun n hn => hwz n (List.mem_of_mem_take hn)⟩
    obtain ⟨b, off, rfl, hc'⟩ := ints_at hcell (by omega)
    refine ⟨b, off, rfl, ?_⟩
    rw [hc' i (by omega)]
    simp [List.getD, List.getElem?_take, show i < len by omega]

end Go.Proofs.YtjbjjfndkpcciaaGreatDoor

/- What the proofs of the statements share: the library's table out of the row's condition, a world for the witness, slices that came in. Own work; no statement. -/
set_option linter.unusedSimpArgs false
set_option linter.unusedVariables false
namespace Go.Proofs.YtjbjjfndkpcciaaGreatDoor
open Go.ChangeShapes Go.WideShapes Go.ChangeAt Go.RowKit

theorem gPow : Tryz.prog.globalNamed "internal/strconv.uint64pow10" = some 1 := by kernel_rfl
theorem tPow : (Tryz.prog.globals[1]?).map (·.type) = some 258 := by kernel_rfl
theorem cPow : Tryz.prog.cellsOf 258 = 20 := by kernel_rfl
theorem cU64 : Tryz.prog.cellsOf 241 = 1 := by kernel_rfl

/-- What all rows of this seat list. -/
def laidAll : List (String × DataW Unit) := [("math/bits.deBruijn32tab", Rows.laid_math_bits_deBruijn32tab), ("math/bits.deBruijn64tab", Rows.laid_math_bits_deBruijn64tab), ("internal/strconv.uint64pow10", Rows.laid_internal_strconv_uint64pow10), ("unicode/utf8.acceptRanges", Rows.laid_unicode_utf8_acceptRanges), ("unicode/utf8.first", Rows.laid_unicode_utf8_first)]

set_option maxRecDepth 100000 in
theorem pow_of_laid {W : World} (h : laidMetH Tryz.prog laidAll W) : Pow W := by
  have h' : laidMet Tryz.prog laidAll W := h
  obtain ⟨ps, ⟨g0, t0, cs0, f0, p0, q0, hg0, ht0, hv0, hd0, ⟨g1, t1, cs1, f1, p1, q1, hg1, ht1, hv1, hd1, ⟨g2, t2, cs2, f2, p2, q2, hg2, ht2, hv2, hd2, _, _⟩, _⟩, _⟩, _, _⟩ := h'
  obtain rfl := Option.some.inj (gPow.symm.trans hg2)
  obtain rfl := Option.some.inj (tPow.symm.trans ht2)
  refine Lib.tabBelow_of_tabIs ?_
  unfold Lib.TabIs
  rw [hv2, ← Lib.cells_of_tab (zs := Lib.pow10Tab) Tryz.underlying258 Tryz.underlying241 cU64 cPow hd2]

/-- The cells of a table. -/
def cell1 : DataW Unit → Value
  | .lit (.int k n) => .int k n
  | _ => .bool false
def cells1 : DataW Unit → List Value
  | .agg l => l.map cell1
  | _ => []
def cells2 : DataW Unit → List Value
  | .agg l => l.flatMap cells1
  | _ => []
def layAt (h : Array Obj) (g : Nat) (cs : List Value) : Array Obj := h.modify g fun
  | .cells _ t frozen => .cells cs.toArray t frozen
  | o => o
/-- A heap with the listed tables in it. -/
def layAll (h : Array Obj) : Array Obj :=
  layAt (layAt (layAt (layAt (layAt h 2 (cells1 Rows.laid_math_bits_deBruijn32tab)) 3 (cells1 Rows.laid_math_bits_deBruijn64tab)) 1 (cells1 Rows.laid_internal_strconv_uint64pow10))
    5 (cells2 Rows.laid_unicode_utf8_acceptRanges)) 4 (cells1 Rows.laid_unicode_utf8_first)

end Go.Proofs.YtjbjjfndkpcciaaGreatDoor
