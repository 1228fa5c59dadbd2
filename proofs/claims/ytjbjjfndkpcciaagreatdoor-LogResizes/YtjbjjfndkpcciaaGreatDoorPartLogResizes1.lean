/- Own work: the parts G34, G35, G36, G37, WLogResizes, FrameP of the proof, laid together. -/
import Derived.Test.YtjbjjfndkpcciaaGreatDoorPartLogStripes20
import Derived.Test.YtjbjjfndkpcciaaGreatDoorPartLogStripes21
import Derived.LaidEqlPtr
import Derived.Test.YtjbjjfndkpcciaaGreatDoorPartLogStripes11
import Derived.Test.YtjbjjfndkpcciaaGreatDoorPartLogStripes1
import Derived.ProofKit
import Derived.OpenShut
import Derived.ShutString
import Derived.ChangeOld
import Derived.Deep.DeepHandedRow
/- The laws' known over logs. Own work; no statement. -/
set_option linter.unusedSimpArgs false
set_option linter.unusedVariables false
namespace Go.Proofs.YtjbjjfndkpcciaaGreatDoor
open Go.RowKit Go.Shelf Go.Sort

/-- The records of known. -/
def kf (p : Int) : RecD := if p = 2 then lawR 1 1 else lawR 0 (p + 1)
theorem kf_dep (p : Int) : (kf p).dep.length ≤ 17592186044416 := by
  unfold kf
  split <;> simp [lawR]

theorem nums_nil (W : World) : IsNums .i64 W (.slice none 0 0) [] := IsNums.of_row (World.ownsRow_nil W 0 3 1)
theorem nums_lit (W : World) (x : Int) : IsNums .i64 (W.alloc (.cells #[.int .i64 x] 3)) (.slice (some ⟨W.heap.size, 0, none⟩) 1 1) [x] := by
  refine ⟨_, 1, rfl, Nat.le_refl _, fun t ht => ⟨W.heap.size, 0, rfl, ?_⟩⟩
  have : t = 0 := by simpa using ht
  subst this
  have := cellsAt (World.alloc_heap_new W (.cells #[.int .i64 x] 3)) 0
  rw [Nat.zero_add, this]
  rfl
theorem whole_zero (D : DiskD) (k : Nat) : wholeN D (geti [] (k : Int)) = D.lasts := by
  have e : geti [] (k : Int) = 0 := by unfold geti; split <;> simp
  rw [e]
  unfold wholeN
  have : ∀ l : List ByteArray, keepN l 0 = 0 := fun l => by
    cases l with
    | nil => rfl
    | cons s r =>
      unfold keepN
      rw [if_neg (by omega)]
  rw [this]
  rfl

/-- A log of known. -/
structure KL (L : LogD) (c : Int) (N : Nat) : Prop where
  inv : L.Inv kf N
  next : L.next = c
  map : L.map = [(0, 2)]
  room : L.room = 1000
  ops : L.ops = []
  trim : L.trim = 0
  gone : L.gone = []

theorem kl_put {w0 w : World} {p : Nat} {L : LogD} {c : Int} {N : Nat} (h : At w0 w p L) (k : KL L c N) (hp : Pow w0) (site seq : Int) (hf : kf c = lawR site seq) (s0 : 0 ≤ site) (s1 : site < 8) (q0 : 1 ≤ seq) (q1 : seq ≤ 1048576) (hc : c ≤ 100) (hN : N ≤ 10) :
    Calls Tryz.prog 17 #[.pointer (some ⟨p, 0, none⟩), .int .i64 c, rv site seq] w fun e w' => e = .returned (.int .i64 0) ∧ ∃ L', At w0 w' p L' ∧ KL L' (c + 1) (N + 1) ∧ L'.head = L.head ∧ (∀ sy, Sy L sy → sy (L.k c) = false → Sy L' sy) ∧ (∀ sy, Sd L sy → ¬ sy (L.k c) → Sd L' sy) := by
  have hn := k.next
  subst hn
  refine (put_at h k.inv hp site seq hf s0 s1 q0 q1 (by omega) (by rw [k.room]; omega) (by omega) (by rw [k.map]; decide)).mono ?_
  rintro e w' ⟨he, hA, hI, hE⟩
  have he0 : L.putE L.next (kf L.next) = 0 := by
    refine Classical.byContradiction fun hne => ?_
    have h1 : L.putS L.next (kf L.next) = L := by unfold LogD.putS; rw [if_neg hne]
    rw [h1] at hE
    have := congrArg LogD.next hE
    dsimp only at this
    omega
  refine ⟨he, _, hA, ⟨hI, ?_, ?_, ?_, ?_, ?_, ?_⟩, ?_, fun sy h1 h2 => put_sy k.inv he0 h1 h2, fun sy h1 h2 i S hS hi => ?_⟩
  · rw [hE]
  · rw [hE]; exact k.map
  · rw [hE]; exact k.room
  · rw [hE]; exact k.ops
  · rw [hE]; exact k.trim
  · rw [hE]; exact k.gone
  · rw [hE]
  · rw [hE] at hS
    rcases set_get hS with ⟨rfl, -⟩ | ⟨-, h3⟩
    · exact absurd hi h2
    · exact h1 i S h3 hi

set_option maxRecDepth 100000 in
set_option maxHeartbeats 8000000 in
theorem logKnown_calls (w : World) (hp : Pow w) : Calls Tryz.prog 9 #[] w fun e w' => e = .returned (.bool true) ∧ Go.RowKit.Below w.heap.size w w' := by
  have kneg : (1 : Int) ≤ 2 := by decide
  go_enter Tryz.func9, Tryz.ntmps9
  go_wp2_with fail
  refine (new_at w w 2 1000 (Below.refl _ w) (by decide) (by decide) (by decide) (by decide)).mono ?_
  rintro e w1 ⟨p, rfl, A1⟩
  have K1 : Hid (KL (newL 2 1000) 0 0) := hide ⟨inv_new kf (by decide) (by decide), rfl, rfl, rfl, rfl, rfl, rfl⟩
  have S1 : Hid (Sy (newL 2 1000) fun _ => false) := hide (new_sy 2 1000)
  replace A1 := hide (A1)
  go_wp2_with fail
  refine (r6_calls 0 1 w1).mono ?_
  rintro e w2 ⟨rfl, b2⟩
  go_wp2_with fail
  refine (kl_put (A1.out.keep b2) K1.out hp 0 1 rfl (by decide) (by decide) (by decide) (by decide) (by decide) (by decide)).mono ?_
  rintro e w3 ⟨rfl, L3, A3, K3, H3, Y3, -⟩
  replace A3 := hide (A3)
  replace K3 := hide (K3)
  have S3 := hide (Y3 _ S1.out rfl)
  replace H3 := hide (H3)
  clear Y3 b2 A1 S1 K1
  go_wp2_with fail
  refine (r6_calls 0 2 w3).mono ?_
  rintro e w4 ⟨rfl, b4⟩
  go_wp2_with fail
  refine (kl_put (A3.out.keep b4) K3.out hp 0 2 rfl (by decide) (by decide) (by decide) (by decide) (by decide) (by decide)).mono ?_
  rintro e w5 ⟨rfl, L5, A5, K5, H5, Y5, -⟩
  replace A5 := hide (A5)
  replace K5 := hide (K5)
  have S5 := hide (Y5 _ S3.out rfl)
  replace H5 := hide ((H5.trans H3.out))
  clear Y5 b4 A3 S3 K3 H3
  go_wp2_with fail
  refine (r6_calls 1 1 w5).mono ?_
  rintro e w6 ⟨rfl, b6⟩
  go_wp2_with fail
  refine (kl_put (A5.out.keep b6) K5.out hp 1 1 rfl (by decide) (by decide) (by decide) (by decide) (by decide) (by decide)).mono ?_
  rintro e w7 ⟨rfl, L7, A7, K7, H7, Y7, -⟩
  replace A7 := hide (A7)
  replace K7 := hide (K7)
  have S7 := hide (Y7 _ S5.out rfl)
  replace H7 := hide ((H7.trans H5.out))
  clear Y7 b6 A5 S5 K5 H5
  go_wp2_with fail
  refine (r6_calls 1 2 w7).mono ?_
  rintro e w8 ⟨rfl, b8⟩
  have e8 : L7.putE 5 (lawR 1 2) = 1 := by
    unfold LogD.putE
    rw [if_neg (by rw [K7.out.inv.down]; decide), if_pos (by rw [K7.out.next]; decide)]
  go_wp2_with fail
  refine (put_not (A7.out.keep b8) K7.out.inv.fm (fun _ => K7.out.inv.up) hp 5 1 2 (by rw [e8]; decide)).mono ?_
  rw [e8]
  rintro e w9 ⟨rfl, A9⟩
  replace A9 := hide (A9)
  clear A7 b8
  go_wp2_with fail
  refine (head_at A9.out).mono ?_
  rw [show L7.head = 0 from H7.out]
  rintro e w10 ⟨rfl, rfl⟩
  go_wp2_with fail
  refine (sync_at A9.out K7.out.inv 0 (by decide)).mono ?_
  rintro e w11 ⟨rfl, h1, A11, I11⟩
  have K11 : KL (L7.syncS 0 h1) 3 3 := ⟨I11, K7.out.next, K7.out.map, K7.out.room, K7.out.ops, K7.out.trim, K7.out.gone⟩
  have S11 := sync_sy (k := 0) K7.out.inv.fm.eight S7.out (by decide) h1
  have hd11 : (L7.syncS 0 h1).head = 1 := by
    have hk : ∀ q : Int, 0 ≤ q → (L7.syncS 0 h1).k q = (q % 2).toNat := fun q h => k_one K11.map (by decide) (by decide) h
    refine head_is I11 S11 (by rw [K11.trim]; decide) (by rw [K11.next]; decide) (fun q q0 q1 => ?_) (.inr ?_)
    · rw [K11.trim] at q0
      have : q = 0 := by omega
      rw [this, hk 0 (by decide)]
      rfl
    · rw [hk 1 (by decide)]
      rfl
  generalize L7.syncS 0 h1 = L11 at *
  clear S11 S7 K7 H7 A9 I11
  replace A11 := hide A11
  replace K11 := hide K11
  replace hd11 := hide hd11
  go_wp2_with fail
  refine (head_at A11.out).mono ?_
  rw [hd11.out]
  rintro e w12 ⟨rfl, rfl⟩
  go_wp2_with fail
  refine (crash_at A11.out K11.out.inv (.slice none 0 0) [] (fun W _ => nums_nil W) (by decide) (fun x hx => by cases hx)).mono ?_
  rintro e w13 ⟨rfl, A13⟩
  replace A13 := hide A13
  clear A11
  go_wp2_with fail
  refine (r6_calls 0 2 w13).mono ?_
  rintro e w14 ⟨rfl, b14⟩
  have e14 : (L11.crash []).putE 1 (lawR 0 2) = 11 := rfl
  go_wp2_with fail
  refine (put_not (A13.out.keep b14) (crash_fm K11.out.inv []) (fun h => by cases h) hp 1 0 2 (by rw [e14]; decide)).mono ?_
  rw [e14]
  rintro e w15 ⟨rfl, A15⟩
  replace A15 := hide A15
  clear A13 b14
  go_wp2_with fail
  refine (recover_at [] A15.out K11.out.inv hp (by rw [K11.out.room]; decide) (by rw [K11.out.next]; decide)).mono ?_
  rintro e w16 ⟨rfl, h2, Rs, A16, I16, -, -, hall, hz⟩
  have hz2 : h2 = 1 := (hz fun k S _ => whole_zero S.D k).trans hd11.out
  have K16 : KL ⟨L11.room, L11.ops, Rs, L11.map, false, L11.trim, L11.gone, h2, h2⟩ 1 4 := ⟨I16, hz2, K11.out.map, K11.out.room, K11.out.ops, K11.out.trim, K11.out.gone⟩
  have S16 : Sd ⟨L11.room, L11.ops, Rs, L11.map, false, L11.trim, L11.gone, h2, h2⟩ fun i => i ≠ 1 := fun i S hS _ => hall S (List.mem_of_getElem? hS)
  clear hz hall I16
  generalize (⟨L11.room, L11.ops, Rs, L11.map, false, L11.trim, L11.gone, h2, h2⟩ : LogD) = L16 at *
  replace A16 := hide A16
  replace K16 := hide K16
  replace S16 := hide S16
  clear A15 K11 hd11 hz2
  go_wp2_with fail
  refine (next_at A16.out).mono ?_
  rw [K16.out.next]
  rintro e w17 ⟨rfl, rfl⟩
  go_wp2_with fail
  refine (r6_calls 0 2 w17).mono ?_
  rintro e w18 ⟨rfl, b18⟩
  go_wp2_with fail
  refine (kl_put (A16.out.keep b18) K16.out hp 0 2 rfl (by decide) (by decide) (by decide) (by decide) (by decide) (by decide)).mono ?_
  rintro e w19 ⟨rfl, L19, A19, K19, -, -, Y19⟩
  have S19 := Y19 _ S16.out (fun h => h (k_one K16.out.map (by decide) (by decide) (by decide)))
  replace A19 := hide A19
  replace K19 := hide K19
  replace S19 := hide S19
  clear Y19 b18 A16 S16 K16
  go_wp2_with fail
  refine (sync_at A19.out K19.out.inv 1 (by decide)).mono ?_
  rintro e w20 ⟨rfl, h3, A20, I20⟩
  have K20 : KL (L19.syncS 1 h3) 2 5 := ⟨I20, K19.out.next, K19.out.map, K19.out.room, K19.out.ops, K19.out.trim, K19.out.gone⟩
  have S20 := sync_sd S19.out 1 h3
  have hd20 : (L19.syncS 1 h3).head = 2 := by
    have := (sd_all I20 (fun i S hS hi => S20 i S hS (Classical.em (i = 1)))).2
    rw [this]
    exact K20.next
  generalize L19.syncS 1 h3 = L20 at *
  clear S20 S19 K19 A19 I20
  replace A20 := hide A20
  replace K20 := hide K20
  replace hd20 := hide hd20
  have hvec : ∀ q : Nat, (q : Int) ≤ 2 → L20.vecTo q = takeIn [] ((List.range q).map fun (i : Nat) => ((i : Int), kf i)) := fun q hq => by
    unfold LogD.vecTo
    rw [K20.out.gone, K20.out.inv.recs (by rw [K20.out.next, K20.out.trim]; omega), K20.out.trim]
    simp
  have hv2 : L20.vecTo 2 = [2] := (hvec 2 (by decide)).trans (by decide +kernel)
  have hv1 : L20.vecTo 1 = [1] := (hvec 1 (by decide)).trans (by decide +kernel)
  clear hvec
  replace hv2 := hide hv2
  replace hv1 := hide hv1
  go_wp2_with fail
  refine (vec_at A20.out K20.out.inv kf_dep).mono ?_
  rw [hd20.out, hv2.out]
  rintro e w21 ⟨vv, rfl, n21, b21⟩
  obtain ⟨va, vc, rfl⟩ := ownsRow_slice n21
  replace A21 := hide (A20.out.keep b21)
  replace n21 := hide n21
  clear A20 b21
  go_wp2_with fail
  have bl := box_below w21 (.cells #[.int .i64 1] 3)
  have hown : writeE L20.own (textO (.trim 1 (L20.vecTo 1))) = 0 := by
    rw [hv1.out]
    unfold LogD.own
    rw [K20.out.room, K20.out.ops]
    decide +kernel
  refine (trim_at (A21.out.keep bl) K20.out.inv hp kf_dep 1 _ [1] (nums_lit w21 1) (by decide) (by rw [K20.out.trim]; decide) (by rw [hd20.out]; decide) (by rw [hv1.out]; decide +kernel) (by rw [hv1.out]; intro x hx; rw [List.mem_singleton.1 hx]; decide) (by rw [hv1.out]; decide) (by rw [hv1.out]; decide +kernel) hown (by rw [K20.out.room]; decide) (by rw [K20.out.next]; decide)).mono ?_
  rintro e w22 ⟨rfl, h4, A22, I22, hle, kp22⟩
  have hle2 := I22.fm.next0
  have h42 : h4 = 2 := by
    have e1 : (L20.trimS 1 h4).next = 2 := K20.out.next
    have e2 : (L20.trimS 1 h4).head = h4 := rfl
    rw [hd20.out] at hle
    omega
  have g22 : (L20.trimS 1 h4).gone = [1] := hv1.out
  have o22 : (L20.trimS 1 h4).ops = [.trim 1 [1]] := by
    show L20.ops ++ [.trim 1 (L20.vecTo 1)] = _
    rw [K20.out.ops, hv1.out]
    rfl
  have m22 : (L20.trimS 1 h4).map = [(0, 2)] := K20.out.map
  have r22 : (L20.trimS 1 h4).room = 1000 := K20.out.room
  have x22 : (L20.trimS 1 h4).next = 2 := K20.out.next
  have d22 : (L20.trimS 1 h4).head = 2 := h42
  have t22 : (L20.trimS 1 h4).trim = 1 := rfl
  have n22 := kp22.row (own_below n21.out bl)
  generalize L20.trimS 1 h4 = L22 at *
  clear A21 n21 bl hown hle hle2 h42 kp22 K20 hd20 hv2 hv1
  replace A22 := hide A22
  replace I22 := hide I22
  replace n22 := hide n22
  have F22 := hide (And.intro g22 (And.intro o22 (And.intro m22 (And.intro r22 (And.intro x22 (And.intro d22 t22))))))
  clear g22 o22 m22 r22 x22 d22 t22
  go_wp2_with fail
  refine (trimmed_at A22.out I22.out).mono ?_
  rw [F22.out.1, F22.out.2.2.2.2.2.2]
  rintro e w23 ⟨vt, rfl, n23, b23⟩
  obtain ⟨ta, tc, rfl⟩ := ownsRow_slice n23
  have A23 := hide (A22.out.keep b23)
  have n22' := hide (own_below n22.out b23)
  replace n23 := hide n23
  clear A22 n22 b23
  go_wp2_with fail
  have hown : writeE L22.own (textO (.map (L22.map ++ [(L22.next, 3)]))) = 0 := by
    unfold LogD.own
    rw [F22.out.2.2.2.1, F22.out.2.1, F22.out.2.2.1, F22.out.2.2.2.2.1]
    decide +kernel
  refine (resize_at A23.out I22.out hp 3 (by rw [F22.out.2.2.2.2.2.1, F22.out.2.2.2.2.1]) (by decide) (by decide) (by rw [F22.out.2.2.2.1]; decide) (by rw [F22.out.2.2.2.2.1]; decide) (by rw [F22.out.2.2.1]; decide) hown).mono ?_
  rintro e w24 ⟨rfl, A24, I24, -, kp24⟩
  have n24 := hide (kp24.row n22'.out)
  have t24 := hide (kp24.row n23.out)
  have m24 : (L22.resizeS 3).map = [(0, 2), (2, 3)] := by
    show L22.map ++ [(L22.next, 3)] = _
    rw [F22.out.2.2.1, F22.out.2.2.2.2.1]
    rfl
  have tr24 : (L22.resizeS 3).trim = 1 := F22.out.2.2.2.2.2.2
  generalize L22.resizeS 3 = L24 at *
  clear A23 n22' n23 kp24 hown F22 I22
  replace A24 := hide A24
  replace I24 := hide I24
  replace m24 := hide m24
  replace tr24 := hide tr24
  go_wp2_with fail
  have g24 : L24.get 0 = (zeroR, 8) := I24.out.get_trim (by decide) (by rw [tr24.out]; decide)
  refine (get_at A24.out I24.out.fm (fun _ => I24.out.up) 0 (by decide)).mono ?_
  rw [g24]
  rintro e w25 ⟨vr, rfl, hvr, b25⟩
  obtain ⟨xa, xc, rfl, -⟩ := hvr
  have A25 := hide (A24.out.keep b25)
  have n25 := hide (own_below n24.out b25)
  have t25 := hide (own_below t24.out b25)
  clear A24 n24 t24 b25 g24
  go_wp2_with fail
  obtain ⟨W26, hW26⟩ : ∃ W26, w25.alloc (.cells #[.int .i64 zeroR.site, .int .i64 zeroR.seq, .slice xa zeroR.dep.length xc, .string zeroR.key, .string zeroR.val] 36) = W26 := ⟨_, rfl⟩
  have b26 : Go.RowKit.Below w25.heap.size w25 W26 := by rw [← hW26]; exact box_below _ _
  have s26 : W26.heap.size = w25.heap.size + 1 := by rw [← hW26]; simp
  rw [hW26]
  have bl26 := box_below W26 (.cells #[.int .i64 2] 3)
  have n26 := own_below n25.out (b26.trans (bl26.mono b26.size))
  have l26 := nums_lit W26 2
  rw [s26] at l26
  have A27 := hide (A25.out.keep (b26.trans (bl26.mono b26.size)))
  have t27 := hide (own_below t25.out (b26.trans (bl26.mono b26.size)))
  refine (refSame_calls _ _ [2] [2] _ (IsNums.of_row n26) l26 (by decide) (by decide)).mono ?_
  rw [show everyB eqB [2] [2] = true from rfl]
  rintro e w27 ⟨rfl, hw27⟩
  rw [← hw27] at A27 t27
  clear hw27 l26 n26 bl26 b26 s26 hW26 n25 t25 A25
  go_wp2_with fail
  have bl27 := box_below w27 (.cells #[.int .i64 1] 3)
  refine (refSame_calls _ _ [1] [1] _ (IsNums.of_row (own_below t27.out bl27)) (nums_lit w27 1) (by decide) (by decide)).mono ?_
  rw [show everyB eqB [1] [1] = true from rfl]
  rintro e w28 ⟨rfl, hw28⟩
  have A28 := hide (A27.out.keep bl27)
  rw [← hw28] at A28
  clear hw28 bl27 A27 t27
  go_wp2_with fail
  refine (stripes_at A28.out I24.out).mono ?_
  rw [m24.out, show stripesM [(0, 2), (2, 3)] = 3 from rfl]
  rintro e w29 ⟨rfl, n29, rfl⟩
  have A29 := hide (A28.out.keep (drewsB w28 n29))
  clear A28
  go_wp2_with fail
  refine (epoch_at A29.out).mono ?_
  rw [m24.out]
  rintro e w30 ⟨rfl, rfl⟩
  go_wp2_with fail
  refine (down_at A29.out).mono ?_
  rw [I24.out.down]
  rintro e w31 ⟨rfl, rfl⟩
  go_wp2_with fail
  go_ret
  exact ⟨rfl, A29.out.below⟩

end Go.Proofs.YtjbjjfndkpcciaaGreatDoor

/- Logs of one epoch, as the laws fill them. Own work; no statement. -/
set_option linter.unusedSimpArgs false
set_option linter.unusedVariables false
namespace Go.Proofs.YtjbjjfndkpcciaaGreatDoor
open Go.RowKit Go.Shelf Go.Sort

/-- The records of the laws' filled logs. -/
def sf (p : Int) : RecD := lawR 0 (p + 1)
theorem sf_dep (p : Int) : (sf p).dep.length ≤ 17592186044416 := by simp [sf, lawR]

/-- A log of one epoch. -/
structure ST (L : LogD) (k room c : Int) (N : Nat) : Prop where
  inv : L.Inv sf N
  next : L.next = c
  map : L.map = [(0, k)]
  room : L.room = room
  ops : L.ops = []
  trim : L.trim = 0
  gone : L.gone = []

theorem st_put {w0 w : World} {p : Nat} {L : LogD} {k room c : Int} {N : Nat} (h : At w0 w p L) (t : ST L k room c N) (hp : Pow w0) (hc : c ≤ 1000) (hN : 81 * ((N : Int) + 1) ≤ room) (hN2 : N ≤ 1000) :
    Calls Tryz.prog 17 #[.pointer (some ⟨p, 0, none⟩), .int .i64 c, rv 0 (c + 1)] w fun e w' => e = .returned (.int .i64 0) ∧ ∃ L', At w0 w' p L' ∧ ST L' k room (c + 1) (N + 1) ∧ (∀ sy, Sy L sy → sy (L.k c) = false → Sy L' sy) ∧ (Full L → Full L') := by
  have hn := t.next
  subst hn
  have h0 : 0 ≤ L.next := by have := t.inv.fm.trim0; have := t.inv.fm.head0; have := t.inv.fm.next0; omega
  refine (put_at h t.inv hp 0 (L.next + 1) rfl (by decide) (by decide) (by omega) (by omega) (by omega) (by rw [t.room]; omega) (by omega) (by rw [t.map]; simp)).mono ?_
  rintro e w' ⟨he, hA, hI, hE⟩
  have he0 : L.putE L.next (sf L.next) = 0 := by
    refine Classical.byContradiction fun hne => ?_
    have h1 : L.putS L.next (sf L.next) = L := by unfold LogD.putS; rw [if_neg hne]
    rw [h1] at hE
    have := congrArg LogD.next hE
    dsimp only at this
    omega
  refine ⟨he, _, hA, ⟨hI, ?_, ?_, ?_, ?_, ?_, ?_⟩, fun sy h1 h2 => put_sy t.inv he0 h1 h2, fun h1 => put_full t.inv he0 h1⟩
  · rw [hE]
  · rw [hE]; exact t.map
  · rw [hE]; exact t.room
  · rw [hE]; exact t.ops
  · rw [hE]; exact t.trim
  · rw [hE]; exact t.gone
theorem st_sync {L : LogD} {k room c : Int} {N : Nat} (t : ST L k room c N) {j : Nat} {h' : Int} (hI : (L.syncS j h').Inv sf N) : ST (L.syncS j h') k room c N := ⟨hI, t.next, t.map, t.room, t.ops, t.trim, t.gone⟩

/-- One epoch: does something wait there? -/
theorem st_waits {L : LogD} {k room c : Int} {N : Nat} (t : ST L k room c N) (h1 : 1 ≤ k) (h8 : k ≤ 8) {sy : Nat → Bool} (hs : Sy L sy) (hf : Full L) {j : Nat} (hj : j < 8) :
    decide ((L.segs.getD j noSeg).D.lasts < (L.segs.getD j noSeg).D.lines.length) = (!sy j && (decide ((j : Int) < k) && decide ((j : Int) < c))) := by
  have h := waits_sy t.inv hs hf hj
  rw [Bool.eq_iff_iff, decide_eq_true_iff, h, t.trim, t.next]
  simp only [Bool.and_eq_true, Bool.not_eq_true', decide_eq_true_eq]
  constructor
  · rintro ⟨q1, p, q2, q3, q4⟩
    rw [k_one t.map h1 h8 q2] at q4
    have e1 := Int.emod_nonneg p (show k ≠ 0 by omega)
    have e2 := Int.emod_lt_of_pos p (show 0 < k by omega)
    have e3 : p % k ≤ p := by
      rcases Int.lt_or_le p k with h | h
      · rw [Int.emod_eq_of_lt q2 h]; omega
      · omega
    exact ⟨q1, by omega, by omega⟩
  · rintro ⟨q1, q2, q3⟩
    refine ⟨q1, j, by omega, q3, ?_⟩
    rw [k_one t.map h1 h8 (by omega), Int.emod_eq_of_lt (by omega) q2]
    simp

theorem rem_nat {n m : Int} (h : 0 ≤ n) (hm : 0 < m) : ∃ k : Nat, Int.tmod n m = (k : Int) ∧ (k : Int) < m := by
  have h1 := Int.emod_nonneg n (show m ≠ 0 by omega)
  have h2 := Int.emod_lt_of_pos n hm
  refine ⟨(n % m).toNat, ?_, by omega⟩
  rw [Int.tmod_eq_emod_of_nonneg h]
  omega

/-- A log of whatever records. -/
structure PT (L : LogD) (f : Int → RecD) (mp : MapD) (room c : Int) (N : Nat) : Prop where
  inv : L.Inv f N
  next : L.next = c
  map : L.map = mp
  room : L.room = room
  trim : L.trim = 0
theorem pt_put {w0 w : World} {p : Nat} {L : LogD} {f : Int → RecD} {mp : MapD} {room c : Int} {N : Nat} (h : At w0 w p L) (t : PT L f mp room c N) (hp : Pow w0) (site seq : Int) (hf : f c = lawR site seq) (s0 : 0 ≤ site) (s1 : site < 8) (q0 : 1 ≤ seq) (q1 : seq ≤ 1048576) (hc : c ≤ 1000) (hm : mp.length ≤ 1000) (hN : 81 * ((N : Int) + 1) ≤ room) (hN2 : N ≤ 1000) :
    Calls Tryz.prog 17 #[.pointer (some ⟨p, 0, none⟩), .int .i64 c, rv site seq] w fun e w' => e = .returned (.int .i64 0) ∧ ∃ L', At w0 w' p L' ∧ PT L' f mp room (c + 1) (N + 1) ∧ L'.head = L.head ∧ L'.ops = L.ops ∧ L'.gone = L.gone := by
  have hn := t.next
  subst hn
  refine (put_at h t.inv hp site seq hf s0 s1 q0 q1 (by omega) (by rw [t.room]; omega) (by omega) (by rw [t.map]; omega)).mono ?_
  rintro e w' ⟨he, hA, hI, hE⟩
  refine ⟨he, _, hA, ⟨hI, ?_, ?_, ?_, ?_⟩, ?_, ?_, ?_⟩
  · rw [hE]
  · rw [hE]; exact t.map
  · rw [hE]; exact t.room
  · rw [hE]; exact t.trim
  · rw [hE]
  · rw [hE]
  · rw [hE]

end Go.Proofs.YtjbjjfndkpcciaaGreatDoor

/- What a log's own disk takes; the vectors of the laws' logs. Own work; no statement. -/
set_option linter.unusedSimpArgs false
set_option linter.unusedVariables false
namespace Go.Proofs.YtjbjjfndkpcciaaGreatDoor
open Go.RowKit Go.Shelf Go.Sort

theorem spans_no10 {m : MapD} (h : ∀ x ∈ m, 0 ≤ x.1 ∧ 0 ≤ x.2) : ∀ k, ∀ c ∈ spansTo m k, c ≠ 10
  | 0 => by simp [spansTo]
  | k + 1 => by
    intro c hc
    have hk : 0 ≤ (m.getD k (0, 0)).1 ∧ 0 ≤ (m.getD k (0, 0)).2 := by
      by_cases hk : k < m.length
      · rw [List.getD_eq_getElem?_getD, List.getElem?_eq_getElem hk]
        exact h _ (List.getElem_mem hk)
      · rw [List.getD_eq_getElem?_getD, List.getElem?_eq_none (by omega)]
        exact ⟨Int.le_refl _, Int.le_refl _⟩
    simp only [spansTo, spanB, List.mem_append] at hc
    rcases hc with hc | hc | hc | hc | hc
    · exact spans_no10 h k c hc
    · split at hc
      · simp at hc
      · simp at hc
        subst hc
        decide
    · exact itoa_ne hk.1 (by decide) c hc
    · simp at hc
      subst hc
      decide
    · exact itoa_ne hk.2 (by decide) c hc
theorem map_noEnd {m : MapD} (h : ∀ x ∈ m, 0 ≤ x.1 ∧ 0 ≤ x.2) : hasEnd (textO (.map m)) = false := by
  unfold hasEnd
  rw [decide_eq_false_iff_not]
  intro hm
  simp only [textO, textM, List.mem_cons] at hm
  rcases hm with hm | hm | hm
  · exact absurd hm (by decide)
  · exact absurd hm (by decide)
  · exact spans_no10 h _ 10 hm rfl
theorem trim_noEnd {pos : Int} {l : List Int} (h0 : 0 ≤ pos) (h : InS l) : hasEnd (textO (.trim pos l)) = false := by
  unfold hasEnd
  rw [decide_eq_false_iff_not]
  intro hm
  simp only [textO, textL, List.mem_cons, List.mem_append] at hm
  rcases hm with hm | hm | hm | hm | hm | hm | hm
  · exact absurd hm (by decide)
  · exact absurd hm (by decide)
  · exact itoa_ne h0 (by decide) 10 hm rfl
  · exact absurd hm (by decide)
  · exact absurd hm (by decide)
  · exact nums_no10 h _ 10 hm rfl
  · simp at hm
theorem textO_map_size {m : MapD} (h : MapR m) : (textO (.map m)).size ≤ 44 * m.length + 2 := by
  have a2 := spansTo_size h
  simp only [textO, ByteArray.size, List.size_toArray, List.length_cons]
  omega
/-- The own disk's bytes. -/
def LogD.ob (L : LogD) : Nat := bytesOf (L.ops.map textO)
theorem own_takes {L : LogD} {o : OwnOp} (h1 : hasEnd (textO o) = false) (h2 : (L.ob : Int) + ((textO o).size : Int) + 1 ≤ L.room) : writeE L.own (textO o) = 0 := by
  unfold writeE
  rw [if_neg (by rw [h1]; decide)]
  unfold LogD.ob at h2
  show (if L.room - (bytesOf (L.ops.map textO) : Int) < ((textO o).size : Int) + 1 then (6 : Int) else 0) = 0
  rw [if_neg (by omega)]
theorem ob_snoc (l : List OwnOp) (o : OwnOp) : bytesOf ((l ++ [o]).map textO) = bytesOf (l.map textO) + ((textO o).size + 1) := by
  rw [List.map_append, bytesOf_append]
  simp [bytesOf]

/-- The vector of so many records of site 0. -/
def gv (t : Int) : List Int := if t = 0 then [] else [t]
theorem gv_step (t : Int) (h0 : 0 ≤ t) : withL (gv t) 0 (t + 1) = gv (t + 1) := by
  unfold gv
  rw [if_neg (show ¬ t + 1 = 0 by omega)]
  split
  · rename_i e
    subst e
    rfl
  · rfl
theorem gv_take (t : Int) (h0 : 0 ≤ t) : ∀ n : Nat, takeIn (gv t) ((List.range n).map fun (i : Nat) => (t + (i : Int), sf (t + (i : Int)))) = gv (t + (n : Int))
  | 0 => by simp [takeIn]
  | n + 1 => by
    rw [List.range_succ, List.map_append, List.map_singleton, takeIn_snoc, gv_take t h0 n]
    show withL (gv (t + (n : Int))) 0 (t + (n : Int) + 1) = _
    rw [gv_step _ (by omega)]
    congr 1
    omega
theorem gv_self (t : Int) : everyB eqB [t] (gv t) = true := by
  unfold gv everyB
  split
  · rename_i e
    subst e
    decide
  · simp [eqB]
theorem gv_self' (t : Int) : everyB eqB (gv t) [t] = true := by
  unfold gv everyB
  split
  · rename_i e
    subst e
    decide
  · simp [eqB]
theorem gv_more (t : Int) : everyB eqB [t + 1] (gv t) = false := by
  unfold gv everyB
  split
  · rename_i e
    subst e
    decide
  · simp [eqB]
    omega
theorem gv_len (t : Int) : (gv t).length ≤ 1 := by
  unfold gv
  split <;> simp
theorem gv_inS {t : Int} (h0 : 0 ≤ t) (h1 : t ≤ 1048576) : InS (gv t) := by
  unfold gv
  split
  · intro x hx
    cases hx
  · intro x hx
    rw [List.mem_singleton.1 hx]
    exact ⟨h0, h1⟩
theorem gv_written (t : Int) : (gv t).take (writtenL (gv t)) = gv t := by
  unfold gv
  split
  · rfl
  · rename_i e
    have : writtenL [t] = 1 := by simp [writtenL, e]
    rw [this]
    rfl

/-- A log that has all it was given, trimmed. -/
structure FT (L : LogD) (room c q : Int) (N b : Nat) : Prop where
  inv : L.Inv sf N
  next : L.next = c
  head : L.head = c
  room : L.room = room
  trim : L.trim = q
  gone : L.gone = gv q
  ob : L.ob ≤ b
theorem ft_vec {L : LogD} {room c q : Int} {N b : Nat} (t : FT L room c q N b) {p : Int} (h1 : q ≤ p) (h2 : p ≤ c) : L.vecTo p = gv p := by
  have h0 := t.inv.fm.trim0
  have e1 := t.trim
  have e2 := t.next
  unfold LogD.vecTo
  rw [t.gone, t.inv.recs (by omega), t.trim, gv_take q (by omega)]
  congr 1
  omega
theorem ft_of {L : LogD} {k room c : Int} {N : Nat} (t : ST L k room c N) (h : L.head = c) : FT L room c 0 N 0 :=
  ⟨t.inv, t.next, h, t.room, t.trim, t.gone, by unfold LogD.ob; rw [t.ops]; exact Nat.le_refl _⟩
theorem ft_trim {w0 w : World} {p : Nat} {L : LogD} {room c q : Int} {N b : Nat} (h : At w0 w p L) (t : FT L room c q N b) (hp : Pow w0) (pos : Int) (v : Value) (hv : IsNums .i64 w v [pos]) (h1 : q ≤ pos) (h2 : pos ≤ c) (hc : c ≤ 1000) (hN : 81 * ((N : Int) + 1) ≤ room) (hb : (b : Int) + 301 ≤ room) :
    Calls Tryz.prog 32 #[.pointer (some ⟨p, 0, none⟩), .int .i64 pos, v] w fun e w' => e = .returned (.int .i64 0) ∧ ∃ L', At w0 w' p L' ∧ FT L' room c pos (N + 1) (b + 301) := by
  have h0 := t.inv.fm.trim0
  have e1 := t.trim
  have e2 := t.next
  have e3 := t.head
  have hpos : 0 ≤ pos := by omega
  have hv2 := ft_vec t h1 h2
  have hsz := textO_trim_size (pos := pos) (l := gv pos) hpos (by omega) (gv_inS hpos (by omega)) (by have := gv_len pos; omega)
  have hob := t.ob
  have he : writeE L.own (textO (.trim pos (L.vecTo pos))) = 0 := by
    rw [hv2]
    exact own_takes (trim_noEnd hpos (gv_inS hpos (by omega))) (by rw [t.room]; omega)
  refine (trim_at h t.inv hp sf_dep pos v [pos] hv (by simp) (by omega) (by omega) (by rw [hv2]; exact gv_self pos) (by rw [hv2]; exact gv_inS hpos (by omega)) (by rw [hv2]; have := gv_len pos; omega) (by rw [hv2]; exact gv_written pos) he (by rw [t.room]; omega) (by omega)).mono ?_
  rintro e w' ⟨rfl, h', hA, hI, hle, -⟩
  have hn := hI.fm.next0
  have x1 : (L.trimS pos h').next = L.next := rfl
  have x2 : (L.trimS pos h').head = h' := rfl
  refine ⟨rfl, _, hA, hI, by rw [x1]; exact e2, by rw [x2]; omega, t.room, rfl, hv2, ?_⟩
  show bytesOf ((L.ops ++ [OwnOp.trim pos (L.vecTo pos)]).map textO) ≤ _
  rw [ob_snoc, hv2]
  unfold LogD.ob at hob
  omega
/-- Fallen with nothing kept, and recovered. -/
theorem ft_recover {w0 w : World} {p : Nat} {L : LogD} {room c q : Int} {N b : Nat} (h : At w0 w p (L.crash [])) (t : FT L room c q N b) (hp : Pow w0) (hc : c ≤ 1000) (hN : 81 * ((N : Int) + 1) ≤ room) :
    Calls Tryz.prog 21 #[.pointer (some ⟨p, 0, none⟩)] w fun e w' => e = .returned (.int .i64 0) ∧ ∃ L', At w0 w' p L' ∧ FT L' room c q (N + 1) b ∧ L'.map = L.map := by
  refine (recover_at [] h t.inv hp (by rw [t.room]; omega) (by rw [t.next]; omega)).mono ?_
  rintro e w' ⟨rfl, h', Rs, hA, hI, -, -, -, hz⟩
  have e : h' = L.head := hz fun k S _ => whole_zero S.D k
  exact ⟨rfl, _, hA, ⟨hI, e.trans t.head, e.trans t.head, t.room, t.trim, t.gone, t.ob⟩, rfl⟩

end Go.Proofs.YtjbjjfndkpcciaaGreatDoor

/- The laws' filled logs: the call. Own work; no statement. -/
set_option linter.unusedSimpArgs false
set_option linter.unusedVariables false
namespace Go.Proofs.YtjbjjfndkpcciaaGreatDoor
open Go.RowKit Go.Shelf Go.Sort

set_option maxRecDepth 100000 in
set_option maxHeartbeats 8000000 in
theorem filled_calls (k : Int) (c : Nat) (w : World) (hp1 : Pow w) (hk1 : 1 ≤ k) (hk8 : k ≤ 8) (hc40 : (c : Int) ≤ 40) :
    Calls Tryz.prog 26 #[.int .i64 k, .int .i64 (c : Int)] w fun e w' => ∃ p, e = .returned (.pointer (some ⟨p, 0, none⟩)) ∧ ∃ L, At w w' p L ∧ ST L k 100000 (c : Int) c ∧ L.head = (c : Int) := by
  go_enter Tryz.func26, Tryz.ntmps26
  go_wp2_with fail
  refine (new_at w w k 100000 (Below.refl _ w) hk1 hk8 (by decide) (by decide)).mono ?_
  rintro e w2 ⟨p, rfl, A2⟩
  have T2 : Hid (ST (newL k 100000) k 100000 0 0) := hide ⟨inv_new sf hk1 hk8, rfl, rfl, rfl, rfl, rfl, rfl⟩
  have A2 := hide A2
  go_wp2_with fail
  go_loopw [7] (fun i wr => ∃ (j : Nat) (L : LogD), j ≤ c ∧ i = .int .i64 (j : Int) ∧ At w wr p L ∧ ST L k 100000 (j : Int) j) (fun i _ => c - (intOf i).toNat)
  case atStart => exact ⟨0, _, Nat.zero_le _, rfl, A2.out, T2.out⟩
  case round =>
    obtain ⟨j, L, hj, rfl, hA, hT⟩ := hrel
    clear A2 T2
    have HA := hide hA
    have HT := hide hT
    clear hA hT
    by_cases hlt : j < c
    · have hltI : (j : Int) < (c : Int) := by omega
      go_wp2_with fail
      refine (r6_calls 0 ((j : Int) + 1) _).mono ?_
      rintro e w3 ⟨rfl, b3⟩
      have u := hide (st_put (HA.out.keep b3) HT.out hp1 (by omega) (by omega) (by omega))
      clear b3
      go_wp2_with fail
      refine u.out.mono ?_
      rintro e w4 ⟨rfl, L4, A4, T4, -, -⟩
      have HA4 := hide A4
      have HT4 := hide T4
      clear A4 T4 u
      go_wp2_with fail
      exact ⟨⟨j + 1, L4, by omega, by go_num, HA4.out, by rw [Int.natCast_succ]; exact HT4.out⟩, by simp [intOf]; omega⟩
    · obtain rfl : j = c := by omega
      go_wp2_with fail
      go_loopw [8] (fun i wr => ∃ (q : Nat) (Y : LogD), q ≤ 8 ∧ i = .int .i64 (q : Int) ∧ At w wr p Y ∧ ST Y k 100000 (j : Int) j ∧ Sd Y (fun i => i < q)) (fun i _ => 8 - (intOf i).toNat)
      case atStart => exact ⟨0, L, by omega, rfl, HA.out, HT.out, fun i S _ h => absurd h (Nat.not_lt_zero i)⟩
      case round =>
        obtain ⟨q, Y, hq, rfl, hA, hP, hS⟩ := hrel
        clear HA HT
        have HA := hide hA
        have HP := hide hP
        have HS := hide hS
        clear hA hP hS
        by_cases hq8 : q < 8
        · have hq8I : (q : Int) < 8 := by omega
          have u := hide (sync_at HA.out HP.out.inv q hq8)
          go_wp2_with fail
          refine u.out.mono ?_
          rintro e w11 ⟨rfl, h', A11, I11⟩
          have HA11 := hide A11
          have HP11 := hide (st_sync HP.out I11)
          have HS11 : Hid (Sd (Y.syncS q h') fun i => i < q + 1) := hide fun i S hS hi => sync_sd HS.out q h' i S hS (by omega)
          clear A11 I11 u
          go_wp2_with fail
          exact ⟨⟨q + 1, _, by omega, by go_num, HA11.out, HP11.out, HS11.out⟩, by simp [intOf]; omega⟩
        · have hq8I : ¬ (q : Int) < 8 := by omega
          obtain rfl : q = 8 := by omega
          go_wp2_with fail
          go_ret
          exact ⟨p, rfl, Y, HA.out, HP.out, (sd_all HP.out.inv HS.out).2.trans HP.out.next⟩

end Go.Proofs.YtjbjjfndkpcciaaGreatDoor

/- LogResizes: the walk. Own work; no statement. -/
set_option linter.unusedSimpArgs false
set_option linter.unusedVariables false
namespace Go.Proofs.YtjbjjfndkpcciaaGreatDoor
open Go.RowKit Go.Shelf Go.Sort

section
variable {P : Program} {ops : Array Oper} {Q : Exit → Act → World → Prop}
/-- A region that draws its order, from its beginning. -/
theorem region_begin {id : Nat} {a : Act} {w : World} {l : List Oper} (g : Nat) (hm : P.follows .mixedOrders = true) (hg : l.toArray.size = g) (h : wpAny P .any l.toArray (noPanic Q) g (Array.replicate g false) a w.drew) : (Code.region id l.toArray true).wp P Q a w := by
  subst hg
  exact wp_mono (Q := noPanic Q) (wp_region_any hm h) noPanic_imp
/-- An operation that yields in whatever world is taken first. -/
theorem takeA (i : Nat) {oi : Oper} (v : Value) {f : Nat} {d : Array Bool} {a : Act} {w : World} (hi : ops[i]? = some oi) (hb : (Region.noSelect ops && Region.free .any ops d i && (Region.ready .any ops d).contains i) = true)
    (hy : Yields P ops oi v a) (h : wpAny P .any ops (noPanic Q) f (d.setIfInBounds i true) (a.put oi.dst v) w) : wpAny P .any ops (noPanic Q) (f + 1) d a w := by
  simp only [Bool.and_eq_true] at hb
  exact wpAny_take hi hb.1.1 hb.1.2 hb.2 (fun _ _ _ h => h) hy h
/-- Number i alone may come up. -/
theorem onlyA (i : Nat) {f : Nat} {d : Array Bool} {a : Act} {w : World} (hr : Region.ready .any ops d = [i]) (h : wpOp P ops Q i (wpAny P .any ops Q f (d.setIfInBounds i true)) a w) : wpAny P .any ops Q (f + 1) d a w :=
  wpAny_all hr (by simp) fun j hj => by
    obtain rfl : j = i := by simpa using hj
    exact h
/-- What is left reads and draws. -/
theorem quietFrom {l : List Oper} (k : Nat) {g : Nat} {d : Array Bool} {a : Act} {w : World} (hg : (l.drop k).length = g) (hB : (Region.noSelect l.toArray && Region.lexFrom .any l.toArray g k d) = true)
    (h : wpQuiet P l.toArray (fun w' => ∃ n, w' = w.drewN n) (fun a' => ∀ w', (∃ n, w' = w.drewN n) → Q .normal a' w') (l.drop k) a) : wpAny P .any l.toArray Q g d a w := by
  subst hg
  simp only [Bool.and_eq_true] at hB
  refine wpAny_of_quiet (C := fun w' => ∃ n, w' = w.drewN n) (Q := fun a' => ∀ w', (∃ n, w' = w.drewN n) → Q .normal a' w') (fun _ w' hw' h => h w' hw') _ _ _ _ ⟨0, rfl⟩ ?_
  exact wpAnyQ_lex hB.1 (l.drop k) k d a (fun j => by simp [List.getElem?_drop]) hB.2 h
end

/-- A log that is resized and resized. -/
structure RZ (L : LogD) (c : Int) (e : Nat) (N : Nat) : Prop where
  inv : L.Inv sf N
  next : L.next = c
  room : L.room = 100000
  trim : L.trim = 0
  map : L.map.length = e
  ob : L.ob ≤ 700 * e
theorem rz_put {w0 w : World} {p : Nat} {L : LogD} {c : Int} {e N : Nat} (h : At w0 w p L) (t : RZ L c e N) (hp : Pow w0) (hc : c ≤ 1000) (he : e ≤ 20) (hN : N ≤ 1000) :
    Calls Tryz.prog 17 #[.pointer (some ⟨p, 0, none⟩), .int .i64 c, rv 0 (c + 1)] w fun x w' => x = .returned (.int .i64 0) ∧ ∃ L', At w0 w' p L' ∧ RZ L' (c + 1) e (N + 1) ∧ L'.head = L.head := by
  have hm := t.map
  have h0 : 0 ≤ c := by have := t.inv.fm.trim0; have := t.inv.fm.head0; have := t.inv.fm.next0; have := t.next; omega
  refine (pt_put h (⟨t.inv, t.next, rfl, t.room, t.trim⟩ : PT L sf L.map 100000 c N) hp 0 (c + 1) rfl (by decide) (by decide) (by omega) (by omega) hc (by omega) (by omega) hN).mono ?_
  rintro x w' ⟨rfl, L', hA, hP, h1, h2, h3⟩
  exact ⟨rfl, L', hA, ⟨hP.inv, hP.next, hP.room, hP.trim, by rw [hP.map]; exact t.map, by have := t.ob; unfold LogD.ob at *; rw [h2]; exact this⟩, h1⟩
theorem rz_sync {L : LogD} {c : Int} {e N : Nat} (t : RZ L c e N) {j : Nat} {h' : Int} (hI : (L.syncS j h').Inv sf N) : RZ (L.syncS j h') c e N := ⟨hI, t.next, t.room, t.trim, t.map, t.ob⟩
theorem rz_resize {w0 w : World} {p : Nat} {L : LogD} {c : Int} {e N : Nat} (h : At w0 w p L) (t : RZ L c e N) (hp : Pow w0) (n : Int) (hh : L.head = c) (hn1 : 1 ≤ n) (hn8 : n ≤ 8) (hc : c ≤ 1000) (he : e ≤ 12) (hN : N ≤ 1000) :
    Calls Tryz.prog 27 #[.pointer (some ⟨p, 0, none⟩), .int .i64 n] w fun x w' => x = .returned (.int .i64 0) ∧ ∃ L', At w0 w' p L' ∧ RZ L' c (e + 1) (N + 1) ∧ L'.head = c ∧ stripesM L'.map = n := by
  have h0 : 0 ≤ L.next := by have := t.inv.fm.trim0; have := t.inv.fm.head0; have := t.inv.fm.next0; omega
  have hm := t.map
  have hnx := t.next
  have hob := t.ob
  have hms : ∀ x ∈ L.map ++ [(L.next, n)], (0 ≤ x.1 ∧ x.1 ≤ 2147483647) ∧ (0 ≤ x.2 ∧ x.2 ≤ 2147483647) := fun x hx => by
    rcases List.mem_append.1 hx with h1 | h1
    · have := t.inv.fm.mapS x h1
      omega
    · rw [List.mem_singleton.1 h1]
      dsimp only
      omega
  have hsz := textO_map_size (m := L.map ++ [(L.next, n)]) fun x hx => by have := hms x hx; omega
  have hl : (L.map ++ [(L.next, n)]).length = e + 1 := by simp [hm]
  rw [hl] at hsz
  have hw : writeE L.own (textO (.map (L.map ++ [(L.next, n)]))) = 0 := own_takes (map_noEnd fun x hx => by have := hms x hx; omega) (by rw [t.room]; omega)
  refine (resize_at h t.inv hp n (by rw [hh, hnx]) hn1 hn8 (by rw [t.room]; omega) (by omega) (by rw [hm]; omega) hw).mono ?_
  rintro x w' ⟨rfl, hA, hI, -, -⟩
  refine ⟨rfl, _, hA, ⟨hI, hnx, t.room, t.trim, hl, ?_⟩, hh, ?_⟩
  · show bytesOf ((L.ops ++ [OwnOp.map (L.map ++ [(L.next, n)])]).map textO) ≤ _
    rw [ob_snoc]
    unfold LogD.ob at hob
    omega
  · show stripesM (L.map ++ [(L.next, n)]) = n
    unfold stripesM
    rw [List.getD_eq_getElem?_getD]
    simp

theorem rz_recover {w0 w : World} {p : Nat} {L : LogD} {c : Int} {e N : Nat} (h : At w0 w p (L.crash [])) (t : RZ L c e N) (hp : Pow w0) (hh : L.head = c) (hc : c ≤ 1000) (hN : N ≤ 1000) :
    Calls Tryz.prog 21 #[.pointer (some ⟨p, 0, none⟩)] w fun x w' => x = .returned (.int .i64 0) ∧ ∃ L', At w0 w' p L' ∧ RZ L' c e (N + 1) ∧ L'.head = c := by
  refine (recover_at [] h t.inv hp (by rw [t.room]; omega) (by rw [t.next]; omega)).mono ?_
  rintro x w' ⟨rfl, h', Rs, hA, hI, -, -, -, hz⟩
  have e : h' = L.head := hz fun k S _ => whole_zero S.D k
  exact ⟨rfl, _, hA, ⟨hI, e.trans hh, t.room, t.trim, t.map, t.ob⟩, e.trans hh⟩

set_option maxRecDepth 100000 in
set_option maxHeartbeats 8000000 in
theorem logResizes_main (v : Value) (l : List Int) (w : World) (hv : IsNums .u8 w v l) (hw : ∀ n ∈ l, (Lit.int .u8 n).wf = true) (hp : Pow w) :
    Calls Tryz.prog 6 #[v] w fun e w' => e = .returned (.bool true) ∧ Go.RowKit.Below w.heap.size w w' := by
  have Hv := hide hv
  obtain ⟨a, cap, rfl, hcap, -⟩ := id hv
  have hw' : ∀ t, t < l.length → 0 ≤ l.getD t 0 ∧ l.getD t 0 ≤ 255 := by
    intro t ht
    rw [List.getD_eq_getElem?_getD, List.getElem?_eq_getElem ht]
    exact rng8 (hw _ (List.getElem_mem ht))
  have Hw := hide hw'
  clear hv hw hw'
  go_enter Tryz.func6, Tryz.ntmps6
  go_wp2_with fail
  refine (logKnown_calls w hp).mono ?_
  rintro e w1 ⟨rfl, b1⟩
  have hp1 : Pow w1 := hp.below b1
  by_cases hl1 : 12 < l.length
  · have hI : (12 : Int) < (l.length : Int) := by omega
    go_wp2_with fail
    go_ret
    exact ⟨rfl, b1⟩
  have hI1 : ¬ (12 : Int) < (l.length : Int) := by omega
  have HB1 := hide b1
  clear b1
  go_wp2_with fail
  refine (filled_calls 2 0 w1 hp1 (by decide) (by decide) (by decide)).mono ?_
  rintro e w2 ⟨p, rfl, L2, A2, T2, h2⟩
  have A2 := hide A2
  have Z2 : Hid (RZ L2 0 1 0) := hide ⟨T2.inv, T2.next, T2.room, T2.trim, by rw [T2.map]; rfl, by unfold LogD.ob; rw [T2.ops]; decide⟩
  have h2 := hide h2
  clear T2
  go_wp2_with fail
  go_loopw [4, 5] (fun cv iv wr => ∃ (i c : Nat) (L : LogD), i ≤ l.length ∧ iv = .int .i64 (i : Int) ∧ cv = .int .i64 (c : Int) ∧ c ≤ 4 * i ∧ At w1 wr p L ∧ RZ L (c : Int) (i + 1) (c + i) ∧ L.head = (c : Int)) (fun _ iv _ => l.length - (intOf iv).toNat)
  case atStart => exact ⟨0, 0, L2, Nat.zero_le _, rfl, rfl, by omega, A2.out, Z2.out, h2.out⟩
  case round =>
    obtain ⟨i, c, L, hi, rfl, rfl, hc, hA, hZ, hh⟩ := hrel
    clear A2 Z2 h2
    have HA := hide hA
    have HZ := hide hZ
    have HH := hide hh
    clear hA hZ hh
    by_cases hil : i < l.length
    · have hilI : (i : Int) < (l.length : Int) := by omega
      have hx := Hw.out i hil
      obtain ⟨b, o, rfl, hcell⟩ : ∃ b o, a = some ⟨b, o, none⟩ ∧ w1.cell? ⟨b, o + i, none⟩ = some (.int .u8 (l.getD i 0)) := by
        obtain ⟨a', cap', e, _, h⟩ := Hv.out.below HB1.out
        cases e
        exact h i hil
      have HC := hide fun W (hW : Go.RowKit.Below w1.heap.size w1 W) => (hW.cell (p := ⟨b, o + i, none⟩) (World.block_lt_of_cell? w1 _ hcell)).trans hcell
      clear hcell
      generalize l.getD i 0 = x at *
      have hd0 := Int.emod_nonneg (x / 8) (show (5 : Int) ≠ 0 by decide)
      have hd5 := Int.emod_lt_of_pos (x / 8) (show (0 : Int) < 5 by decide)
      have hn0 := Int.emod_nonneg x (show (8 : Int) ≠ 0 by decide)
      have hn8 := Int.emod_lt_of_pos x (show (0 : Int) < 8 by decide)
      go_wp2_with fail
      go_loopw [4, 6] (fun cv kv wi => ∃ (k : Nat) (M : LogD), (k : Int) ≤ x / 8 % 5 ∧ kv = .int .i64 (k : Int) ∧ cv = .int .i64 ((c : Int) + (k : Int)) ∧ At w1 wi p M ∧ RZ M ((c : Int) + (k : Int)) (i + 1) (c + i + k) ∧ M.head = (c : Int)) (fun _ kv _ => (x / 8 % 5 - intOf kv).toNat)
      case atStart => exact ⟨0, L, hd0, rfl, by go_num, HA.out, by simpa using HZ.out, HH.out⟩
      case round =>
        obtain ⟨k, M, hk, rfl, rfl, hA, hZ, hh⟩ := hrel
        clear HA HZ HH
        have HA := hide hA
        have HZ := hide hZ
        have HH := hide hh
        clear hA hZ hh
        have hcell := HC.out _ HA.out.below
        by_cases hkd : (k : Int) < x / 8 % 5
        · go_wp2_with fail
          refine (r6_calls 0 ((c : Int) + (k : Int) + 1) _).mono ?_
          rintro e w3 ⟨rfl, b3⟩
          have u := hide (rz_put (HA.out.keep b3) HZ.out hp1 (by omega) (by omega) (by omega))
          clear b3
          go_wp2_with fail
          refine u.out.mono ?_
          rintro e w4 ⟨rfl, M4, A4, Z4, h4⟩
          have HA4 := hide A4
          have HZ4 := hide Z4
          have HH4 := hide (h4.trans HH.out)
          clear A4 Z4 h4 u hcell
          go_wp2_with fail
          exact ⟨⟨k + 1, M4, by omega, by go_num, by go_num, HA4.out, by rw [Int.natCast_succ, ← Int.add_assoc]; exact HZ4.out, HH4.out⟩, by simp [intOf]; omega⟩
        · have hke : x / 8 % 5 = (k : Int) := by omega
          by_cases hk0 : (0 : Int) < x / 8 % 5
          · have hcell2 := hcell
            go_wp2_with fail
            refine (resize_not HA.out HZ.out.inv (1 + x % 8) (by rw [HH.out, HZ.out.next]; omega) (by omega) (by omega)).mono ?_
            rintro e w5 ⟨rfl, A5⟩
            have HA5 := hide A5
            clear A5 HA hcell hcell2
            go_wp2_with fail
            go_loopw [7] (fun qv wi => ∃ (q : Nat) (Y : LogD), q ≤ 8 ∧ qv = .int .i64 (q : Int) ∧ At w1 wi p Y ∧ RZ Y ((c : Int) + (k : Int)) (i + 1) (c + i + k) ∧ Sd Y (fun i => i < q)) (fun qv _ => 8 - (intOf qv).toNat)
            case atStart => exact ⟨0, M, by omega, rfl, HA5.out, HZ.out, fun i S _ h => absurd h (Nat.not_lt_zero i)⟩
            case round =>
              obtain ⟨q, Y, hq, rfl, hA, hZ, hS⟩ := hrel
              clear HA5 HZ HH
              have HA := hide hA
              have HZ := hide hZ
              have HS := hide hS
              clear hA hZ hS
              by_cases hq8 : q < 8
              · have hq8I : (q : Int) < 8 := by omega
                have u := hide (sync_at HA.out HZ.out.inv q hq8)
                go_wp2_with fail
                refine u.out.mono ?_
                rintro e w6 ⟨rfl, h', A6, I6⟩
                have HA6 := hide A6
                have HZ6 := hide (rz_sync HZ.out I6)
                have HS6 : Hid (Sd (Y.syncS q h') fun i => i < q + 1) := hide fun i S hS hi => sync_sd HS.out q h' i S hS (by omega)
                clear A6 I6 u
                go_wp2_with fail
                exact ⟨⟨q + 1, _, by omega, by go_num, HA6.out, HZ6.out, HS6.out⟩, by simp [intOf]; omega⟩
              · have hq8I : ¬ (q : Int) < 8 := by omega
                obtain rfl : q = 8 := by omega
                have hhd := hide ((sd_all HZ.out.inv HS.out).2.trans HZ.out.next)
                clear HS
                have hcell := HC.out _ HA.out.below
                go_wp2_with fail
                refine region_begin 35 (by kernel_rfl) rfl ?_
                obtain ⟨W1, hW1⟩ : ∃ W1, wr.drew = W1 := ⟨_, rfl⟩
                have A1 := HA.out.keep (drewsB wr 1)
                rw [show wr.drewN 1 = wr.drew from rfl, hW1] at A1
                have A1 := hide A1
                rw [hW1]
                clear hW1 hcell HA
                have hcell := HC.out _ A1.out.below
                refine takeA 0 (.pointer (some ⟨p, 0, none⟩)) rfl (by kernel_rfl) (.inl ⟨rfl, fun w2 => by go_simp⟩) ?_
                refine takeA 1 (.slice (some ⟨b, o, none⟩) l.length cap) rfl (by kernel_rfl) (.inl ⟨rfl, fun w2 => by go_simp⟩) ?_
                refine onlyA 2 (by kernel_rfl) ?_
                refine wpOp_val rfl rfl (v := .int .i64 (i : Int)) (w' := W1) (by go_simp) ?_
                refine onlyA 3 (by kernel_rfl) ?_
                refine wpOp_val rfl rfl (v := .pointer (some ⟨b, o + i, none⟩)) (w' := W1) (by go_simp) ?_
                refine onlyA 4 (by kernel_rfl) ?_
                refine wpOp_val rfl rfl (v := .int .u8 x) (w' := W1) (by go_simp) ?_
                refine onlyA 5 (by kernel_rfl) ?_
                refine wpOp_val rfl rfl (v := .int .u8 (x % 8)) (w' := W1) (by go_simp; exact Int.tmod_eq_emod_of_nonneg hx.1) ?_
                refine onlyA 6 (by kernel_rfl) ?_
                refine wpOp_val rfl rfl (v := .int .i64 (x % 8)) (w' := W1) (by go_simp; exact IntWalk.i64_in _ ⟨by omega, by omega⟩) ?_
                refine onlyA 7 (by kernel_rfl) ?_
                refine wpOp_val rfl rfl (v := .int .i64 (1 + x % 8)) (w' := W1) (by go_simp; exact IntWalk.i64_in _ ⟨by omega, by omega⟩) ?_
                refine onlyA 8 (by kernel_rfl) ?_
                refine wpOp_call rfl rfl 27 #[.pointer (some ⟨p, 0, none⟩), .int .i64 (1 + x % 8)] (by go_simp) (rz_resize A1.out HZ.out hp1 (1 + x % 8) hhd.out (by omega) (by omega) (by omega) (by omega) (by omega)) ?_
                rintro e w6 ⟨rfl, L6, A6, Z6, h6, s6⟩
                refine ⟨_, rfl, ?_⟩
                have A6 := hide A6
                have Z6 := hide Z6
                have h6 := hide h6
                have s6 := hide s6
                clear A1 HZ hhd hcell
                have hcell := HC.out _ A6.out.below
                have QS : Hid (∀ n, Calls Tryz.prog 28 #[.pointer (some ⟨p, 0, none⟩)] (w6.drewN n) fun e w'' => e = .returned (.int .i64 (1 + x % 8)) ∧ ∃ m, w'' = w6.drewN m) := hide fun n => by
                  have := stripes_at (A6.out.keep (drewsB w6 n)) Z6.out.inv
                  rw [s6.out] at this
                  exact Calls.quiet_of this
                have QE : Hid (∀ n, Calls Tryz.prog 29 #[.pointer (some ⟨p, 0, none⟩)] (w6.drewN n) fun e w'' => e = .returned (.int .i64 ((i : Int) + 2)) ∧ ∃ m, w'' = w6.drewN m) := hide fun n => by
                  have := epoch_at (A6.out.keep (drewsB w6 n))
                  rw [Z6.out.map, show ((i + 1 + 1 : Nat) : Int) = (i : Int) + 2 by omega] at this
                  exact Calls.quiet_of_same this
                have QH : Hid (∀ n, Calls Tryz.prog 20 #[.pointer (some ⟨p, 0, none⟩)] (w6.drewN n) fun e w'' => e = .returned (.int .i64 ((c : Int) + (k : Int))) ∧ ∃ m, w'' = w6.drewN m) := hide fun n => by
                  have := head_at (A6.out.keep (drewsB w6 n))
                  rw [h6.out] at this
                  exact Calls.quiet_of_same this
                refine quietFrom 9 rfl (by kernel_rfl) ?_
                simp only [List.drop_succ_cons, List.drop_zero]
                first | go_big_quiet_step (first | exact QS.out _ | exact QE.out _ | exact QH.out _) | quiet_step (first | exact QS.out _ | exact QE.out _ | exact QH.out _)
                first | go_big_quiet_step (first | exact QS.out _ | exact QE.out _ | exact QH.out _) | quiet_step (first | exact QS.out _ | exact QE.out _ | exact QH.out _)
                first | go_big_quiet_step (first | exact QS.out _ | exact QE.out _ | exact QH.out _) | quiet_step (first | exact QS.out _ | exact QE.out _ | exact QH.out _)
                first | go_big_quiet_step (first | exact QS.out _ | exact QE.out _ | exact QH.out _) | quiet_step (first | exact QS.out _ | exact QE.out _ | exact QH.out _)
                first | go_big_quiet_step (first | exact QS.out _ | exact QE.out _ | exact QH.out _) | quiet_step (first | exact QS.out _ | exact QE.out _ | exact QH.out _)
                first | go_big_quiet_step (first | exact QS.out _ | exact QE.out _ | exact QH.out _) | quiet_step (first | exact QS.out _ | exact QE.out _ | exact QH.out _)
                first | go_big_quiet_step (first | exact QS.out _ | exact QE.out _ | exact QH.out _) | quiet_step (first | exact QS.out _ | exact QE.out _ | exact QH.out _)
                first | go_big_quiet_step (first | exact QS.out _ | exact QE.out _ | exact QH.out _) | quiet_step (first | exact QS.out _ | exact QE.out _ | exact QH.out _)
                first | go_big_quiet_step (first | exact QS.out _ | exact QE.out _ | exact QH.out _) | quiet_step (first | exact QS.out _ | exact QE.out _ | exact QH.out _)
                first | go_big_quiet_step (first | exact QS.out _ | exact QE.out _ | exact QH.out _) | quiet_step (first | exact QS.out _ | exact QE.out _ | exact QH.out _)
                first | go_big_quiet_step (first | exact QS.out _ | exact QE.out _ | exact QH.out _) | quiet_step (first | exact QS.out _ | exact QE.out _ | exact QH.out _)
                first | go_big_quiet_step (first | exact QS.out _ | exact QE.out _ | exact QH.out _) | quiet_step (first | exact QS.out _ | exact QE.out _ | exact QH.out _)
                first | go_big_quiet_step (first | exact QS.out _ | exact QE.out _ | exact QH.out _) | quiet_step (first | exact QS.out _ | exact QE.out _ | exact QH.out _)
                first | go_big_quiet_step (first | exact QS.out _ | exact QE.out _ | exact QH.out _) | quiet_step (first | exact QS.out _ | exact QE.out _ | exact QH.out _)
                first | go_big_quiet_step (first | exact QS.out _ | exact QE.out _ | exact QH.out _) | quiet_step (first | exact QS.out _ | exact QE.out _ | exact QH.out _)
                first | go_big_quiet_step (first | exact QS.out _ | exact QE.out _ | exact QH.out _) | quiet_step (first | exact QS.out _ | exact QE.out _ | exact QH.out _)
                first | go_big_quiet_step (first | exact QS.out _ | exact QE.out _ | exact QH.out _) | quiet_step (first | exact QS.out _ | exact QE.out _ | exact QH.out _)
                first | go_big_quiet_step (first | exact QS.out _ | exact QE.out _ | exact QH.out _) | quiet_step (first | exact QS.out _ | exact QE.out _ | exact QH.out _)
                first | go_big_quiet_step (first | exact QS.out _ | exact QE.out _ | exact QH.out _) | quiet_step (first | exact QS.out _ | exact QE.out _ | exact QH.out _)
                first | go_big_quiet_step (first | exact QS.out _ | exact QE.out _ | exact QH.out _) | quiet_step (first | exact QS.out _ | exact QE.out _ | exact QH.out _)
                first | go_big_quiet_step (first | exact QS.out _ | exact QE.out _ | exact QH.out _) | quiet_step (first | exact QS.out _ | exact QE.out _ | exact QH.out _)
                first | go_big_quiet_step (first | exact QS.out _ | exact QE.out _ | exact QH.out _) | quiet_step (first | exact QS.out _ | exact QE.out _ | exact QH.out _)
                first | go_big_quiet_step (first | exact QS.out _ | exact QE.out _ | exact QH.out _) | quiet_step (first | exact QS.out _ | exact QE.out _ | exact QH.out _)
                first | go_big_quiet_step (first | exact QS.out _ | exact QE.out _ | exact QH.out _) | quiet_step (first | exact QS.out _ | exact QE.out _ | exact QH.out _)
                first | go_big_quiet_step (first | exact QS.out _ | exact QE.out _ | exact QH.out _) | quiet_step (first | exact QS.out _ | exact QE.out _ | exact QH.out _)
                first | go_big_quiet_step (first | exact QS.out _ | exact QE.out _ | exact QH.out _) | quiet_step (first | exact QS.out _ | exact QE.out _ | exact QH.out _)
                refine wpQuiet_nil ?_
                intro _ hw'
                obtain ⟨nq, hw''⟩ := hw'
                subst hw''
                have A7 := hide (A6.out.keep (drewsB w6 nq))
                clear A6 QS QE QH hcell
                simp only [noPanic]
                go_wp2_with fail
                exact ⟨⟨i + 1, c + k, L6, by omega, by go_num, by go_num, by omega, A7.out, by rw [Int.natCast_add, show c + k + (i + 1) = c + i + k + 1 by omega]; exact Z6.out, by rw [Int.natCast_add]; exact h6.out⟩, by simp [intOf]; omega⟩
          · have HA5 := HA
            clear HA
            go_wp2_with fail
            clear hcell
            go_loopw [7] (fun qv wi => ∃ (q : Nat) (Y : LogD), q ≤ 8 ∧ qv = .int .i64 (q : Int) ∧ At w1 wi p Y ∧ RZ Y ((c : Int) + (k : Int)) (i + 1) (c + i + k) ∧ Sd Y (fun i => i < q)) (fun qv _ => 8 - (intOf qv).toNat)
            case atStart => exact ⟨0, M, by omega, rfl, HA5.out, HZ.out, fun i S _ h => absurd h (Nat.not_lt_zero i)⟩
            case round =>
              obtain ⟨q, Y, hq, rfl, hA, hZ, hS⟩ := hrel
              clear HA5 HZ HH
              have HA := hide hA
              have HZ := hide hZ
              have HS := hide hS
              clear hA hZ hS
              by_cases hq8 : q < 8
              · have hq8I : (q : Int) < 8 := by omega
                have u := hide (sync_at HA.out HZ.out.inv q hq8)
                go_wp2_with fail
                refine u.out.mono ?_
                rintro e w6 ⟨rfl, h', A6, I6⟩
                have HA6 := hide A6
                have HZ6 := hide (rz_sync HZ.out I6)
                have HS6 : Hid (Sd (Y.syncS q h') fun i => i < q + 1) := hide fun i S hS hi => sync_sd HS.out q h' i S hS (by omega)
                clear A6 I6 u
                go_wp2_with fail
                exact ⟨⟨q + 1, _, by omega, by go_num, HA6.out, HZ6.out, HS6.out⟩, by simp [intOf]; omega⟩
              · have hq8I : ¬ (q : Int) < 8 := by omega
                obtain rfl : q = 8 := by omega
                have hhd := hide ((sd_all HZ.out.inv HS.out).2.trans HZ.out.next)
                clear HS
                have hcell := HC.out _ HA.out.below
                go_wp2_with fail
                refine region_begin 35 (by kernel_rfl) rfl ?_
                obtain ⟨W1, hW1⟩ : ∃ W1, wr.drew = W1 := ⟨_, rfl⟩
                have A1 := HA.out.keep (drewsB wr 1)
                rw [show wr.drewN 1 = wr.drew from rfl, hW1] at A1
                have A1 := hide A1
                rw [hW1]
                clear hW1 hcell HA
                have hcell := HC.out _ A1.out.below
                refine takeA 0 (.pointer (some ⟨p, 0, none⟩)) rfl (by kernel_rfl) (.inl ⟨rfl, fun w2 => by go_simp⟩) ?_
                refine takeA 1 (.slice (some ⟨b, o, none⟩) l.length cap) rfl (by kernel_rfl) (.inl ⟨rfl, fun w2 => by go_simp⟩) ?_
                refine onlyA 2 (by kernel_rfl) ?_
                refine wpOp_val rfl rfl (v := .int .i64 (i : Int)) (w' := W1) (by go_simp) ?_
                refine onlyA 3 (by kernel_rfl) ?_
                refine wpOp_val rfl rfl (v := .pointer (some ⟨b, o + i, none⟩)) (w' := W1) (by go_simp) ?_
                refine onlyA 4 (by kernel_rfl) ?_
                refine wpOp_val rfl rfl (v := .int .u8 x) (w' := W1) (by go_simp) ?_
                refine onlyA 5 (by kernel_rfl) ?_
                refine wpOp_val rfl rfl (v := .int .u8 (x % 8)) (w' := W1) (by go_simp; exact Int.tmod_eq_emod_of_nonneg hx.1) ?_
                refine onlyA 6 (by kernel_rfl) ?_
                refine wpOp_val rfl rfl (v := .int .i64 (x % 8)) (w' := W1) (by go_simp; exact IntWalk.i64_in _ ⟨by omega, by omega⟩) ?_
                refine onlyA 7 (by kernel_rfl) ?_
                refine wpOp_val rfl rfl (v := .int .i64 (1 + x % 8)) (w' := W1) (by go_simp; exact IntWalk.i64_in _ ⟨by omega, by omega⟩) ?_
                refine onlyA 8 (by kernel_rfl) ?_
                refine wpOp_call rfl rfl 27 #[.pointer (some ⟨p, 0, none⟩), .int .i64 (1 + x % 8)] (by go_simp) (rz_resize A1.out HZ.out hp1 (1 + x % 8) hhd.out (by omega) (by omega) (by omega) (by omega) (by omega)) ?_
                rintro e w6 ⟨rfl, L6, A6, Z6, h6, s6⟩
                refine ⟨_, rfl, ?_⟩
                have A6 := hide A6
                have Z6 := hide Z6
                have h6 := hide h6
                have s6 := hide s6
                clear A1 HZ hhd hcell
                have hcell := HC.out _ A6.out.below
                have QS : Hid (∀ n, Calls Tryz.prog 28 #[.pointer (some ⟨p, 0, none⟩)] (w6.drewN n) fun e w'' => e = .returned (.int .i64 (1 + x % 8)) ∧ ∃ m, w'' = w6.drewN m) := hide fun n => by
                  have := stripes_at (A6.out.keep (drewsB w6 n)) Z6.out.inv
                  rw [s6.out] at this
                  exact Calls.quiet_of this
                have QE : Hid (∀ n, Calls Tryz.prog 29 #[.pointer (some ⟨p, 0, none⟩)] (w6.drewN n) fun e w'' => e = .returned (.int .i64 ((i : Int) + 2)) ∧ ∃ m, w'' = w6.drewN m) := hide fun n => by
                  have := epoch_at (A6.out.keep (drewsB w6 n))
                  rw [Z6.out.map, show ((i + 1 + 1 : Nat) : Int) = (i : Int) + 2 by omega] at this
                  exact Calls.quiet_of_same this
                have QH : Hid (∀ n, Calls Tryz.prog 20 #[.pointer (some ⟨p, 0, none⟩)] (w6.drewN n) fun e w'' => e = .returned (.int .i64 ((c : Int) + (k : Int))) ∧ ∃ m, w'' = w6.drewN m) := hide fun n => by
                  have := head_at (A6.out.keep (drewsB w6 n))
                  rw [h6.out] at this
                  exact Calls.quiet_of_same this
                refine quietFrom 9 rfl (by kernel_rfl) ?_
                simp only [List.drop_succ_cons, List.drop_zero]
                first | go_big_quiet_step (first | exact QS.out _ | exact QE.out _ | exact QH.out _) | quiet_step (first | exact QS.out _ | exact QE.out _ | exact QH.out _)
                first | go_big_quiet_step (first | exact QS.out _ | exact QE.out _ | exact QH.out _) | quiet_step (first | exact QS.out _ | exact QE.out _ | exact QH.out _)
                first | go_big_quiet_step (first | exact QS.out _ | exact QE.out _ | exact QH.out _) | quiet_step (first | exact QS.out _ | exact QE.out _ | exact QH.out _)
                first | go_big_quiet_step (first | exact QS.out _ | exact QE.out _ | exact QH.out _) | quiet_step (first | exact QS.out _ | exact QE.out _ | exact QH.out _)
                first | go_big_quiet_step (first | exact QS.out _ | exact QE.out _ | exact QH.out _) | quiet_step (first | exact QS.out _ | exact QE.out _ | exact QH.out _)
                first | go_big_quiet_step (first | exact QS.out _ | exact QE.out _ | exact QH.out _) | quiet_step (first | exact QS.out _ | exact QE.out _ | exact QH.out _)
                first | go_big_quiet_step (first | exact QS.out _ | exact QE.out _ | exact QH.out _) | quiet_step (first | exact QS.out _ | exact QE.out _ | exact QH.out _)
                first | go_big_quiet_step (first | exact QS.out _ | exact QE.out _ | exact QH.out _) | quiet_step (first | exact QS.out _ | exact QE.out _ | exact QH.out _)
                first | go_big_quiet_step (first | exact QS.out _ | exact QE.out _ | exact QH.out _) | quiet_step (first | exact QS.out _ | exact QE.out _ | exact QH.out _)
                first | go_big_quiet_step (first | exact QS.out _ | exact QE.out _ | exact QH.out _) | quiet_step (first | exact QS.out _ | exact QE.out _ | exact QH.out _)
                first | go_big_quiet_step (first | exact QS.out _ | exact QE.out _ | exact QH.out _) | quiet_step (first | exact QS.out _ | exact QE.out _ | exact QH.out _)
                first | go_big_quiet_step (first | exact QS.out _ | exact QE.out _ | exact QH.out _) | quiet_step (first | exact QS.out _ | exact QE.out _ | exact QH.out _)
                first | go_big_quiet_step (first | exact QS.out _ | exact QE.out _ | exact QH.out _) | quiet_step (first | exact QS.out _ | exact QE.out _ | exact QH.out _)
                first | go_big_quiet_step (first | exact QS.out _ | exact QE.out _ | exact QH.out _) | quiet_step (first | exact QS.out _ | exact QE.out _ | exact QH.out _)
                first | go_big_quiet_step (first | exact QS.out _ | exact QE.out _ | exact QH.out _) | quiet_step (first | exact QS.out _ | exact QE.out _ | exact QH.out _)
                first | go_big_quiet_step (first | exact QS.out _ | exact QE.out _ | exact QH.out _) | quiet_step (first | exact QS.out _ | exact QE.out _ | exact QH.out _)
                first | go_big_quiet_step (first | exact QS.out _ | exact QE.out _ | exact QH.out _) | quiet_step (first | exact QS.out _ | exact QE.out _ | exact QH.out _)
                first | go_big_quiet_step (first | exact QS.out _ | exact QE.out _ | exact QH.out _) | quiet_step (first | exact QS.out _ | exact QE.out _ | exact QH.out _)
                first | go_big_quiet_step (first | exact QS.out _ | exact QE.out _ | exact QH.out _) | quiet_step (first | exact QS.out _ | exact QE.out _ | exact QH.out _)
                first | go_big_quiet_step (first | exact QS.out _ | exact QE.out _ | exact QH.out _) | quiet_step (first | exact QS.out _ | exact QE.out _ | exact QH.out _)
                first | go_big_quiet_step (first | exact QS.out _ | exact QE.out _ | exact QH.out _) | quiet_step (first | exact QS.out _ | exact QE.out _ | exact QH.out _)
                first | go_big_quiet_step (first | exact QS.out _ | exact QE.out _ | exact QH.out _) | quiet_step (first | exact QS.out _ | exact QE.out _ | exact QH.out _)
                first | go_big_quiet_step (first | exact QS.out _ | exact QE.out _ | exact QH.out _) | quiet_step (first | exact QS.out _ | exact QE.out _ | exact QH.out _)
                first | go_big_quiet_step (first | exact QS.out _ | exact QE.out _ | exact QH.out _) | quiet_step (first | exact QS.out _ | exact QE.out _ | exact QH.out _)
                first | go_big_quiet_step (first | exact QS.out _ | exact QE.out _ | exact QH.out _) | quiet_step (first | exact QS.out _ | exact QE.out _ | exact QH.out _)
                first | go_big_quiet_step (first | exact QS.out _ | exact QE.out _ | exact QH.out _) | quiet_step (first | exact QS.out _ | exact QE.out _ | exact QH.out _)
                refine wpQuiet_nil ?_
                intro _ hw'
                obtain ⟨nq, hw''⟩ := hw'
                subst hw''
                have A7 := hide (A6.out.keep (drewsB w6 nq))
                clear A6 QS QE QH hcell
                simp only [noPanic]
                go_wp2_with fail
                exact ⟨⟨i + 1, c + k, L6, by omega, by go_num, by go_num, by omega, A7.out, by rw [Int.natCast_add, show c + k + (i + 1) = c + i + k + 1 by omega]; exact Z6.out, by rw [Int.natCast_add]; exact h6.out⟩, by simp [intOf]; omega⟩
    · obtain rfl : i = l.length := by omega
      have hilI : ¬ (l.length : Int) < (l.length : Int) := by omega
      go_wp2_with fail
      refine (crash_at HA.out HZ.out.inv (.slice none 0 0) [] (fun W _ => nums_nil W) (by decide) (fun x hx => by cases hx)).mono ?_
      rintro e w8 ⟨rfl, A8⟩
      have A8 := hide A8
      clear HA
      go_wp2_with fail
      refine (rz_recover A8.out HZ.out hp1 HH.out (by omega) (by omega)).mono ?_
      rintro e w9 ⟨rfl, L9, A9, Z9, h9⟩
      have A9 := hide A9
      have Z9 := hide Z9
      have h9 := hide h9
      clear A8 HZ HH
      go_wp2_with fail
      refine (epoch_at A9.out).mono ?_
      rw [Z9.out.map]
      rintro e w10 ⟨rfl, rfl⟩
      go_wp2_with fail
      refine (head_at A9.out).mono ?_
      rw [h9.out]
      rintro e w11 ⟨rfl, rfl⟩
      go_wp2_with fail
      refine (rows_at A9.out Z9.out.inv (by rw [Z9.out.trim]; decide) sf_dep (by rw [Z9.out.trim, Z9.out.next]; omega)).mono ?_
      rw [Z9.out.trim, h9.out]
      rintro e w14 ⟨lb, rfl, b14, hrows⟩
      have Hrows := hide hrows
      have B14 := hide b14
      clear hrows b14
      go_wp2_with fail
      refine (Hrows.out 100 (by omega) (by decide)).mono ?_
      rintro e w15 ⟨va, vb, rfl, n15, r15, b15⟩
      have hl15 : ((c : Int) - 0).toNat = c := by omega
      rw [hl15] at n15 r15
      obtain ⟨pa5, ca5, rfl, -, hat⟩ := n15
      obtain ⟨pb5, cb5, rfl, hrow⟩ := r15
      have hcell : ∀ t, t < c → (∃ ba oa, pa5 = some ⟨ba, oa, none⟩ ∧ w15.cell? ⟨ba, oa + t, none⟩ = some (.int .i64 (t : Int))) ∧ ∃ bo ob, pb5 = some ⟨bo, ob, none⟩ ∧ w15.cell? ⟨bo, ob + t * 5 + 1, none⟩ = some (.int .i64 ((t : Int) + 1)) := fun t ht => by
        obtain ⟨ba, oa, e1, e2⟩ := hat t (by simp; omega)
        obtain ⟨bo, ob, e3, a9, c9, e4, e5, -⟩ := hrow t (by simp; omega)
        refine ⟨⟨ba, oa, e1, ?_⟩, bo, ob, e3, ?_⟩
        · rw [e2]
          simp [List.getD_eq_getElem?_getD, ht]
        · rw [e5]
          simp [sf, lawR]
      have la : ((List.range c).map fun (i : Nat) => (0 : Int) + (i : Int)).length = c := by simp
      have lr : ((List.range c).map fun (i : Nat) => sf (0 + (i : Int))).length = c := by simp
      rw [la, lr]
      have Hcell := hide hcell
      have HB15 : Hid (Go.RowKit.Below w.heap.size w w15) := hide (HB1.out.trans ((A9.out.below.trans ((B14.out.trans (b15.mono B14.out.size)).mono A9.out.below.size)).mono HB1.out.size))
      clear hat hrow la lr hcell b15 B14 A9 Z9 h9 Hrows hl15
      go_wp2_with fail
      go_loopw [11] (fun iv wr => ∃ (t n : Nat), t ≤ c ∧ iv = .int .i64 (t : Int) ∧ wr = w15.drewN n) (fun iv _ => c - (intOf iv).toNat)
      case atStart => exact ⟨0, 0, Nat.zero_le _, rfl, rfl⟩
      case round =>
        obtain ⟨t, n, ht, rfl, rfl⟩ := hrel
        by_cases htn : t < c
        · have htI : (t : Int) < (c : Int) := by omega
          obtain ⟨⟨ba, oa, rfl, ca⟩, bo, ob, rfl, cq⟩ := Hcell.out t htn
          have d1 : (w15.drewN n).cell? ⟨ba, oa + t, none⟩ = _ := ca
          have d3 : (w15.drewN n).cell? ⟨bo, ob + t * 5 + 1, none⟩ = _ := cq
          obtain ⟨W6, hW6⟩ : ∃ W6, w15.drewN n = W6 := ⟨_, rfl⟩
          rw [hW6] at d1 d3 ⊢
          clear ca cq Hcell
          go_wp2_with fail
          exact ⟨⟨t + 1, n, by omega, by go_num, hW6.symm⟩, by simp [intOf]; omega⟩
        · have htI : ¬ (t : Int) < (c : Int) := by omega
          go_wp2_with fail
          go_ret
          exact ⟨rfl, HB15.out.trans ((drewsB w15 n).mono HB15.out.size)⟩

end Go.Proofs.YtjbjjfndkpcciaaGreatDoor

/- What the proofs of the statements share: slices that came in. Own work; no statement. -/
set_option linter.unusedSimpArgs false
set_option linter.unusedVariables false
namespace Go.Proofs.YtjbjjfndkpcciaaGreatDoor
open Go.ChangeShapes Go.WideShapes Go.ChangeAt Go.RowKit

theorem own : ownKnob Tryz.prog.godebug = none := by kernel_rfl
theorem laidOut : laidOutB Tryz.prog = true := by kernel_rfl

/-- A slice of integers that came in: what it reads as; its numbers fit their kind. -/
theorem nums_of_open {H : Type} {enc : TypeId × Value → H} {W : World} {base : Nat} {sp : Nat → Bool} {held : Bool} {t e : TypeId} {k : IntKind} {fuel : Nat} {a : Option Addr} {len cap : Nat} {x : DataW H × List MemPlace}
    (ht : Tryz.prog.underlying t = some (.slice e)) (he : Tryz.prog.underlying e = some (.int k)) (hc : Tryz.prog.cellsOf e = 1) (h : DataW.trod enc Tryz.prog W base sp held fuel t [.slice a len cap] = some x) (hsp : ∀ b, sp b = true) :
    ∃ zs : List Int, IsNums k W (.slice a len cap) zs ∧ (∀ n ∈ zs, (Lit.int k n).wf = true) := by
  rcases open_ints ht he hc h with ⟨hcs, _⟩ | ⟨y, l, c, zs, hcs, _, hl, hm, hz, _, hcell, hwz⟩
  · simp at hcs
    obtain ⟨rfl, rfl, rfl⟩ := hcs
    exact ⟨[], IsNums.nil _ _ _ _, fun n hn => absurd hn (by simp)⟩
  · simp at hcs
    obtain ⟨rfl, rfl, rfl⟩ := hcs
    rw [hsp, if_pos rfl] at hz
    have hlen : (zs.take len).length = len := by simp; omega
    refine ⟨zs.take len, ⟨some y, cap, by rw [hlen], by omega, fun i hi => ?_⟩, fun n hn => hwz n (List.mem_of_mem_take hn)⟩
    obtain ⟨b, off, rfl, hc'⟩ := ints_at hcell (by omega)
    refine ⟨b, off, rfl, ?_⟩
    rw [hc' i (by omega)]
    simp [List.getD, List.getElem?_take, show i < len by omega]

end Go.Proofs.YtjbjjfndkpcciaaGreatDoor
