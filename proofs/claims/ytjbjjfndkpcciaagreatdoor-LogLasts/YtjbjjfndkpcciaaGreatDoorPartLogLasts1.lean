/- Own work: the parts G34, G35, R12 of the proof, laid together. -/
import Derived.Test.YtjbjjfndkpcciaaGreatDoorPartLogStripes20
import Derived.Test.YtjbjjfndkpcciaaGreatDoorPartLogStripes21
import Derived.LaidEqlPtr
import Derived.Test.YtjbjjfndkpcciaaGreatDoorPartLogStripes10
import Derived.Test.YtjbjjfndkpcciaaGreatDoorPartLogStripes7
/- The laws' known over logs. Own work; no statement. -/
set_option linter.unusedSimpArgs false
set_option linter.unusedVariables false
namespace Go.Proofs.YtjbjjfndkpcciaaGreatDoor
open Go.RowKit Go.Shelf Go.Sort

/-- The records of known. -/
def kf (p : Int) : RecD := if p = 2 then lawR 1 1 else lawR 0 (p + 1)
theorem kf_dep (p : Int) : (kf p).dep.length ≤ 17592186044416 := by
  unfold kf
  split <;> simp [lawR]

theorem nums_nil (W : World) : IsNums .i64 W (.slice none 0 0) [] := IsNums.of_row (World.ownsRow_nil W 0 3 1)
theorem nums_lit (W : World) (x : Int) : IsNums .i64 (W.alloc (.cells #[.int .i64 x] 3)) (.slice (some ⟨W.heap.size, 0, none⟩) 1 1) [x] := by
  refine ⟨_, 1, rfl, Nat.le_refl _, fun t ht => ⟨W.heap.size, 0, rfl, ?_⟩⟩
  have : t = 0 := by simpa using ht
  subst this
  have := cellsAt (World.alloc_heap_new W (.cells #[.int .i64 x] 3)) 0
  rw [Nat.zero_add, this]
  rfl
theorem whole_zero (D : DiskD) (k : Nat) : wholeN D (geti [] (k : Int)) = D.lasts := by
  have e : geti [] (k : Int) = 0 := by unfold geti; split <;> simp
  rw [e]
  unfold wholeN
  have : ∀ l : List ByteArray, keepN l 0 = 0 := fun l => by
    cases l with
    | nil => rfl
    | cons s r =>
      unfold keepN
      rw [if_neg (by omega)]
  rw [this]
  rfl

/-- A log of known. -/
structure KL (L : LogD) (c : Int) (N : Nat) : Prop where
  inv : L.Inv kf N
  next : L.next = c
  map : L.map = [(0, 2)]
  room : L.room = 1000
  ops : L.ops = []
  trim : L.trim = 0
  gone : L.gone = []

theorem kl_put {w0 w : World} {p : Nat} {L : LogD} {c : Int} {N : Nat} (h : At w0 w p L) (k : KL L c N) (hp : Pow w0) (site seq : Int) (hf : kf c = lawR site seq) (s0 : 0 ≤ site) (s1 : site < 8) (q0 : 1 ≤ seq) (q1 : seq ≤ 1048576) (hc : c ≤ 100) (hN : N ≤ 10) :
    Calls Tryz.prog 17 #[.pointer (some ⟨p, 0, none⟩), .int .i64 c, rv site seq] w fun e w' => e = .returned (.int .i64 0) ∧ ∃ L', At w0 w' p L' ∧ KL L' (c + 1) (N + 1) ∧ L'.head = L.head ∧ (∀ sy, Sy L sy → sy (L.k c) = false → Sy L' sy) ∧ (∀ sy, Sd L sy → ¬ sy (L.k c) → Sd L' sy) := by
  have hn := k.next
  subst hn
  refine (put_at h k.inv hp site seq hf s0 s1 q0 q1 (by omega) (by rw [k.room]; omega) (by omega) (by rw [k.map]; decide)).mono ?_
  rintro e w' ⟨he, hA, hI, hE⟩
  have he0 : L.putE L.next (kf L.next) = 0 := by
    refine Classical.byContradiction fun hne => ?_
    have h1 : L.putS L.next (kf L.next) = L := by unfold LogD.putS; rw [if_neg hne]
    rw [h1] at hE
    have := congrArg LogD.next hE
    dsimp only at this
    omega
  refine ⟨he, _, hA, ⟨hI, ?_, ?_, ?_, ?_, ?_, ?_⟩, ?_, fun sy h1 h2 => put_sy k.inv he0 h1 h2, fun sy h1 h2 i S hS hi => ?_⟩
  · rw [hE]
  · rw [hE]; exact k.map
  · rw [hE]; exact k.room
  · rw [hE]; exact k.ops
  · rw [hE]; exact k.trim
  · rw [hE]; exact k.gone
  · rw [hE]
  · rw [hE] at hS
    rcases set_get hS with ⟨rfl, -⟩ | ⟨-, h3⟩
    · exact absurd hi h2
    · exact h1 i S h3 hi

set_option maxRecDepth 100000 in
set_option maxHeartbeats 8000000 in
theorem logKnown_calls (w : World) (hp : Pow w) : Calls Tryz.prog 9 #[] w fun e w' => e = .returned (.bool true) ∧ Go.RowKit.Below w.heap.size w w' := by
  have kneg : (1 : Int) ≤ 2 := by decide
  go_enter Tryz.func9, Tryz.ntmps9
  go_wp2_with fail
  refine (new_at w w 2 1000 (Below.refl _ w) (by decide) (by decide) (by decide) (by decide)).mono ?_
  rintro e w1 ⟨p, rfl, A1⟩
  have K1 : Hid (KL (newL 2 1000) 0 0) := hide ⟨inv_new kf (by decide) (by decide), rfl, rfl, rfl, rfl, rfl, rfl⟩
  have S1 : Hid (Sy (newL 2 1000) fun _ => false) := hide (new_sy 2 1000)
  replace A1 := hide (A1)
  go_wp2_with fail
  refine (r6_calls 0 1 w1).mono ?_
  rintro e w2 ⟨rfl, b2⟩
  go_wp2_with fail
  refine (kl_put (A1.out.keep b2) K1.out hp 0 1 rfl (by decide) (by decide) (by decide) (by decide) (by decide) (by decide)).mono ?_
  rintro e w3 ⟨rfl, L3, A3, K3, H3, Y3, -⟩
  replace A3 := hide (A3)
  replace K3 := hide (K3)
  have S3 := hide (Y3 _ S1.out rfl)
  replace H3 := hide (H3)
  clear Y3 b2 A1 S1 K1
  go_wp2_with fail
  refine (r6_calls 0 2 w3).mono ?_
  rintro e w4 ⟨rfl, b4⟩
  go_wp2_with fail
  refine (kl_put (A3.out.keep b4) K3.out hp 0 2 rfl (by decide) (by decide) (by decide) (by decide) (by decide) (by decide)).mono ?_
  rintro e w5 ⟨rfl, L5, A5, K5, H5, Y5, -⟩
  replace A5 := hide (A5)
  replace K5 := hide (K5)
  have S5 := hide (Y5 _ S3.out rfl)
  replace H5 := hide ((H5.trans H3.out))
  clear Y5 b4 A3 S3 K3 H3
  go_wp2_with fail
  refine (r6_calls 1 1 w5).mono ?_
  rintro e w6 ⟨rfl, b6⟩
  go_wp2_with fail
  refine (kl_put (A5.out.keep b6) K5.out hp 1 1 rfl (by decide) (by decide) (by decide) (by decide) (by decide) (by decide)).mono ?_
  rintro e w7 ⟨rfl, L7, A7, K7, H7, Y7, -⟩
  replace A7 := hide (A7)
  replace K7 := hide (K7)
  have S7 := hide (Y7 _ S5.out rfl)
  replace H7 := hide ((H7.trans H5.out))
  clear Y7 b6 A5 S5 K5 H5
  go_wp2_with fail
  refine (r6_calls 1 2 w7).mono ?_
  rintro e w8 ⟨rfl, b8⟩
  have e8 : L7.putE 5 (lawR 1 2) = 1 := by
    unfold LogD.putE
    rw [if_neg (by rw [K7.out.inv.down]; decide), if_pos (by rw [K7.out.next]; decide)]
  go_wp2_with fail
  refine (put_not (A7.out.keep b8) K7.out.inv.fm (fun _ => K7.out.inv.up) hp 5 1 2 (by rw [e8]; decide)).mono ?_
  rw [e8]
  rintro e w9 ⟨rfl, A9⟩
  replace A9 := hide (A9)
  clear A7 b8
  go_wp2_with fail
  refine (head_at A9.out).mono ?_
  rw [show L7.head = 0 from H7.out]
  rintro e w10 ⟨rfl, rfl⟩
  go_wp2_with fail
  refine (sync_at A9.out K7.out.inv 0 (by decide)).mono ?_
  rintro e w11 ⟨rfl, h1, A11, I11⟩
  have K11 : KL (L7.syncS 0 h1) 3 3 := ⟨I11, K7.out.next, K7.out.map, K7.out.room, K7.out.ops, K7.out.trim, K7.out.gone⟩
  have S11 := sync_sy (k := 0) K7.out.inv.fm.eight S7.out (by decide) h1
  have hd11 : (L7.syncS 0 h1).head = 1 := by
    have hk : ∀ q : Int, 0 ≤ q → (L7.syncS 0 h1).k q = (q % 2).toNat := fun q h => k_one K11.map (by decide) (by decide) h
    refine head_is I11 S11 (by rw [K11.trim]; decide) (by rw [K11.next]; decide) (fun q q0 q1 => ?_) (.inr ?_)
    · rw [K11.trim] at q0
      have : q = 0 := by omega
      rw [this, hk 0 (by decide)]
      rfl
    · rw [hk 1 (by decide)]
      rfl
  generalize L7.syncS 0 h1 = L11 at *
  clear S11 S7 K7 H7 A9 I11
  replace A11 := hide A11
  replace K11 := hide K11
  replace hd11 := hide hd11
  go_wp2_with fail
  refine (head_at A11.out).mono ?_
  rw [hd11.out]
  rintro e w12 ⟨rfl, rfl⟩
  go_wp2_with fail
  refine (crash_at A11.out K11.out.inv (.slice none 0 0) [] (fun W _ => nums_nil W) (by decide) (fun x hx => by cases hx)).mono ?_
  rintro e w13 ⟨rfl, A13⟩
  replace A13 := hide A13
  clear A11
  go_wp2_with fail
  refine (r6_calls 0 2 w13).mono ?_
  rintro e w14 ⟨rfl, b14⟩
  have e14 : (L11.crash []).putE 1 (lawR 0 2) = 11 := rfl
  go_wp2_with fail
  refine (put_not (A13.out.keep b14) (crash_fm K11.out.inv []) (fun h => by cases h) hp 1 0 2 (by rw [e14]; decide)).mono ?_
  rw [e14]
  rintro e w15 ⟨rfl, A15⟩
  replace A15 := hide A15
  clear A13 b14
  go_wp2_with fail
  refine (recover_at [] A15.out K11.out.inv hp (by rw [K11.out.room]; decide) (by rw [K11.out.next]; decide)).mono ?_
  rintro e w16 ⟨rfl, h2, Rs, A16, I16, -, -, hall, hz⟩
  have hz2 : h2 = 1 := (hz fun k S _ => whole_zero S.D k).trans hd11.out
  have K16 : KL ⟨L11.room, L11.ops, Rs, L11.map, false, L11.trim, L11.gone, h2, h2⟩ 1 4 := ⟨I16, hz2, K11.out.map, K11.out.room, K11.out.ops, K11.out.trim, K11.out.gone⟩
  have S16 : Sd ⟨L11.room, L11.ops, Rs, L11.map, false, L11.trim, L11.gone, h2, h2⟩ fun i => i ≠ 1 := fun i S hS _ => hall S (List.mem_of_getElem? hS)
  clear hz hall I16
  generalize (⟨L11.room, L11.ops, Rs, L11.map, false, L11.trim, L11.gone, h2, h2⟩ : LogD) = L16 at *
  replace A16 := hide A16
  replace K16 := hide K16
  replace S16 := hide S16
  clear A15 K11 hd11 hz2
  go_wp2_with fail
  refine (next_at A16.out).mono ?_
  rw [K16.out.next]
  rintro e w17 ⟨rfl, rfl⟩
  go_wp2_with fail
  refine (r6_calls 0 2 w17).mono ?_
  rintro e w18 ⟨rfl, b18⟩
  go_wp2_with fail
  refine (kl_put (A16.out.keep b18) K16.out hp 0 2 rfl (by decide) (by decide) (by decide) (by decide) (by decide) (by decide)).mono ?_
  rintro e w19 ⟨rfl, L19, A19, K19, -, -, Y19⟩
  have S19 := Y19 _ S16.out (fun h => h (k_one K16.out.map (by decide) (by decide) (by decide)))
  replace A19 := hide A19
  replace K19 := hide K19
  replace S19 := hide S19
  clear Y19 b18 A16 S16 K16
  go_wp2_with fail
  refine (sync_at A19.out K19.out.inv 1 (by decide)).mono ?_
  rintro e w20 ⟨rfl, h3, A20, I20⟩
  have K20 : KL (L19.syncS 1 h3) 2 5 := ⟨I20, K19.out.next, K19.out.map, K19.out.room, K19.out.ops, K19.out.trim, K19.out.gone⟩
  have S20 := sync_sd S19.out 1 h3
  have hd20 : (L19.syncS 1 h3).head = 2 := by
    have := (sd_all I20 (fun i S hS hi => S20 i S hS (Classical.em (i = 1)))).2
    rw [this]
    exact K20.next
  generalize L19.syncS 1 h3 = L20 at *
  clear S20 S19 K19 A19 I20
  replace A20 := hide A20
  replace K20 := hide K20
  replace hd20 := hide hd20
  have hvec : ∀ q : Nat, (q : Int) ≤ 2 → L20.vecTo q = takeIn [] ((List.range q).map fun (i : Nat) => ((i : Int), kf i)) := fun q hq => by
    unfold LogD.vecTo
    rw [K20.out.gone, K20.out.inv.recs (by rw [K20.out.next, K20.out.trim]; omega), K20.out.trim]
    simp
  have hv2 : L20.vecTo 2 = [2] := (hvec 2 (by decide)).trans (by decide +kernel)
  have hv1 : L20.vecTo 1 = [1] := (hvec 1 (by decide)).trans (by decide +kernel)
  clear hvec
  replace hv2 := hide hv2
  replace hv1 := hide hv1
  go_wp2_with fail
  refine (vec_at A20.out K20.out.inv kf_dep).mono ?_
  rw [hd20.out, hv2.out]
  rintro e w21 ⟨vv, rfl, n21, b21⟩
  obtain ⟨va, vc, rfl⟩ := ownsRow_slice n21
  replace A21 := hide (A20.out.keep b21)
  replace n21 := hide n21
  clear A20 b21
  go_wp2_with fail
  have bl := box_below w21 (.cells #[.int .i64 1] 3)
  have hown : writeE L20.own (textO (.trim 1 (L20.vecTo 1))) = 0 := by
    rw [hv1.out]
    unfold LogD.own
    rw [K20.out.room, K20.out.ops]
    decide +kernel
  refine (trim_at (A21.out.keep bl) K20.out.inv hp kf_dep 1 _ [1] (nums_lit w21 1) (by decide) (by rw [K20.out.trim]; decide) (by rw [hd20.out]; decide) (by rw [hv1.out]; decide +kernel) (by rw [hv1.out]; intro x hx; rw [List.mem_singleton.1 hx]; decide) (by rw [hv1.out]; decide) (by rw [hv1.out]; decide +kernel) hown (by rw [K20.out.room]; decide) (by rw [K20.out.next]; decide)).mono ?_
  rintro e w22 ⟨rfl, h4, A22, I22, hle, kp22⟩
  have hle2 := I22.fm.next0
  have h42 : h4 = 2 := by
    have e1 : (L20.trimS 1 h4).next = 2 := K20.out.next
    have e2 : (L20.trimS 1 h4).head = h4 := rfl
    rw [hd20.out] at hle
    omega
  have g22 : (L20.trimS 1 h4).gone = [1] := hv1.out
  have o22 : (L20.trimS 1 h4).ops = [.trim 1 [1]] := by
    show L20.ops ++ [.trim 1 (L20.vecTo 1)] = _
    rw [K20.out.ops, hv1.out]
    rfl
  have m22 : (L20.trimS 1 h4).map = [(0, 2)] := K20.out.map
  have r22 : (L20.trimS 1 h4).room = 1000 := K20.out.room
  have x22 : (L20.trimS 1 h4).next = 2 := K20.out.next
  have d22 : (L20.trimS 1 h4).head = 2 := h42
  have t22 : (L20.trimS 1 h4).trim = 1 := rfl
  have n22 := kp22.row (own_below n21.out bl)
  generalize L20.trimS 1 h4 = L22 at *
  clear A21 n21 bl hown hle hle2 h42 kp22 K20 hd20 hv2 hv1
  replace A22 := hide A22
  replace I22 := hide I22
  replace n22 := hide n22
  have F22 := hide (And.intro g22 (And.intro o22 (And.intro m22 (And.intro r22 (And.intro x22 (And.intro d22 t22))))))
  clear g22 o22 m22 r22 x22 d22 t22
  go_wp2_with fail
  refine (trimmed_at A22.out I22.out).mono ?_
  rw [F22.out.1, F22.out.2.2.2.2.2.2]
  rintro e w23 ⟨vt, rfl, n23, b23⟩
  obtain ⟨ta, tc, rfl⟩ := ownsRow_slice n23
  have A23 := hide (A22.out.keep b23)
  have n22' := hide (own_below n22.out b23)
  replace n23 := hide n23
  clear A22 n22 b23
  go_wp2_with fail
  have hown : writeE L22.own (textO (.map (L22.map ++ [(L22.next, 3)]))) = 0 := by
    unfold LogD.own
    rw [F22.out.2.2.2.1, F22.out.2.1, F22.out.2.2.1, F22.out.2.2.2.2.1]
    decide +kernel
  refine (resize_at A23.out I22.out hp 3 (by rw [F22.out.2.2.2.2.2.1, F22.out.2.2.2.2.1]) (by decide) (by decide) (by rw [F22.out.2.2.2.1]; decide) (by rw [F22.out.2.2.2.2.1]; decide) (by rw [F22.out.2.2.1]; decide) hown).mono ?_
  rintro e w24 ⟨rfl, A24, I24, -, kp24⟩
  have n24 := hide (kp24.row n22'.out)
  have t24 := hide (kp24.row n23.out)
  have m24 : (L22.resizeS 3).map = [(0, 2), (2, 3)] := by
    show L22.map ++ [(L22.next, 3)] = _
    rw [F22.out.2.2.1, F22.out.2.2.2.2.1]
    rfl
  have tr24 : (L22.resizeS 3).trim = 1 := F22.out.2.2.2.2.2.2
  generalize L22.resizeS 3 = L24 at *
  clear A23 n22' n23 kp24 hown F22 I22
  replace A24 := hide A24
  replace I24 := hide I24
  replace m24 := hide m24
  replace tr24 := hide tr24
  go_wp2_with fail
  have g24 : L24.get 0 = (zeroR, 8) := I24.out.get_trim (by decide) (by rw [tr24.out]; decide)
  refine (get_at A24.out I24.out.fm (fun _ => I24.out.up) 0 (by decide)).mono ?_
  rw [g24]
  rintro e w25 ⟨vr, rfl, hvr, b25⟩
  obtain ⟨xa, xc, rfl, -⟩ := hvr
  have A25 := hide (A24.out.keep b25)
  have n25 := hide (own_below n24.out b25)
  have t25 := hide (own_below t24.out b25)
  clear A24 n24 t24 b25 g24
  go_wp2_with fail
  obtain ⟨W26, hW26⟩ : ∃ W26, w25.alloc (.cells #[.int .i64 zeroR.site, .int .i64 zeroR.seq, .slice xa zeroR.dep.length xc, .string zeroR.key, .string zeroR.val] 36) = W26 := ⟨_, rfl⟩
  have b26 : Go.RowKit.Below w25.heap.size w25 W26 := by rw [← hW26]; exact box_below _ _
  have s26 : W26.heap.size = w25.heap.size + 1 := by rw [← hW26]; simp
  rw [hW26]
  have bl26 := box_below W26 (.cells #[.int .i64 2] 3)
  have n26 := own_below n25.out (b26.trans (bl26.mono b26.size))
  have l26 := nums_lit W26 2
  rw [s26] at l26
  have A27 := hide (A25.out.keep (b26.trans (bl26.mono b26.size)))
  have t27 := hide (own_below t25.out (b26.trans (bl26.mono b26.size)))
  refine (refSame_calls _ _ [2] [2] _ (IsNums.of_row n26) l26 (by decide) (by decide)).mono ?_
  rw [show everyB eqB [2] [2] = true from rfl]
  rintro e w27 ⟨rfl, hw27⟩
  rw [← hw27] at A27 t27
  clear hw27 l26 n26 bl26 b26 s26 hW26 n25 t25 A25
  go_wp2_with fail
  have bl27 := box_below w27 (.cells #[.int .i64 1] 3)
  refine (refSame_calls _ _ [1] [1] _ (IsNums.of_row (own_below t27.out bl27)) (nums_lit w27 1) (by decide) (by decide)).mono ?_
  rw [show everyB eqB [1] [1] = true from rfl]
  rintro e w28 ⟨rfl, hw28⟩
  have A28 := hide (A27.out.keep bl27)
  rw [← hw28] at A28
  clear hw28 bl27 A27 t27
  go_wp2_with fail
  refine (stripes_at A28.out I24.out).mono ?_
  rw [m24.out, show stripesM [(0, 2), (2, 3)] = 3 from rfl]
  rintro e w29 ⟨rfl, n29, rfl⟩
  have A29 := hide (A28.out.keep (drewsB w28 n29))
  clear A28
  go_wp2_with fail
  refine (epoch_at A29.out).mono ?_
  rw [m24.out]
  rintro e w30 ⟨rfl, rfl⟩
  go_wp2_with fail
  refine (down_at A29.out).mono ?_
  rw [I24.out.down]
  rintro e w31 ⟨rfl, rfl⟩
  go_wp2_with fail
  go_ret
  exact ⟨rfl, A29.out.below⟩

end Go.Proofs.YtjbjjfndkpcciaaGreatDoor

/- Logs of one epoch, as the laws fill them. Own work; no statement. -/
set_option linter.unusedSimpArgs false
set_option linter.unusedVariables false
namespace Go.Proofs.YtjbjjfndkpcciaaGreatDoor
open Go.RowKit Go.Shelf Go.Sort

/-- The records of the laws' filled logs. -/
def sf (p : Int) : RecD := lawR 0 (p + 1)
theorem sf_dep (p : Int) : (sf p).dep.length ≤ 17592186044416 := by simp [sf, lawR]

/-- A log of one epoch. -/
structure ST (L : LogD) (k room c : Int) (N : Nat) : Prop where
  inv : L.Inv sf N
  next : L.next = c
  map : L.map = [(0, k)]
  room : L.room = room
  ops : L.ops = []
  trim : L.trim = 0
  gone : L.gone = []

theorem st_put {w0 w : World} {p : Nat} {L : LogD} {k room c : Int} {N : Nat} (h : At w0 w p L) (t : ST L k room c N) (hp : Pow w0) (hc : c ≤ 1000) (hN : 81 * ((N : Int) + 1) ≤ room) (hN2 : N ≤ 1000) :
    Calls Tryz.prog 17 #[.pointer (some ⟨p, 0, none⟩), .int .i64 c, rv 0 (c + 1)] w fun e w' => e = .returned (.int .i64 0) ∧ ∃ L', At w0 w' p L' ∧ ST L' k room (c + 1) (N + 1) ∧ (∀ sy, Sy L sy → sy (L.k c) = false → Sy L' sy) ∧ (Full L → Full L') := by
  have hn := t.next
  subst hn
  have h0 : 0 ≤ L.next := by have := t.inv.fm.trim0; have := t.inv.fm.head0; have := t.inv.fm.next0; omega
  refine (put_at h t.inv hp 0 (L.next + 1) rfl (by decide) (by decide) (by omega) (by omega) (by omega) (by rw [t.room]; omega) (by omega) (by rw [t.map]; simp)).mono ?_
  rintro e w' ⟨he, hA, hI, hE⟩
  have he0 : L.putE L.next (sf L.next) = 0 := by
    refine Classical.byContradiction fun hne => ?_
    have h1 : L.putS L.next (sf L.next) = L := by unfold LogD.putS; rw [if_neg hne]
    rw [h1] at hE
    have := congrArg LogD.next hE
    dsimp only at this
    omega
  refine ⟨he, _, hA, ⟨hI, ?_, ?_, ?_, ?_, ?_, ?_⟩, fun sy h1 h2 => put_sy t.inv he0 h1 h2, fun h1 => put_full t.inv he0 h1⟩
  · rw [hE]
  · rw [hE]; exact t.map
  · rw [hE]; exact t.room
  · rw [hE]; exact t.ops
  · rw [hE]; exact t.trim
  · rw [hE]; exact t.gone
theorem st_sync {L : LogD} {k room c : Int} {N : Nat} (t : ST L k room c N) {j : Nat} {h' : Int} (hI : (L.syncS j h').Inv sf N) : ST (L.syncS j h') k room c N := ⟨hI, t.next, t.map, t.room, t.ops, t.trim, t.gone⟩

/-- One epoch: does something wait there? -/
theorem st_waits {L : LogD} {k room c : Int} {N : Nat} (t : ST L k room c N) (h1 : 1 ≤ k) (h8 : k ≤ 8) {sy : Nat → Bool} (hs : Sy L sy) (hf : Full L) {j : Nat} (hj : j < 8) :
    decide ((L.segs.getD j noSeg).D.lasts < (L.segs.getD j noSeg).D.lines.length) = (!sy j && (decide ((j : Int) < k) && decide ((j : Int) < c))) := by
  have h := waits_sy t.inv hs hf hj
  rw [Bool.eq_iff_iff, decide_eq_true_iff, h, t.trim, t.next]
  simp only [Bool.and_eq_true, Bool.not_eq_true', decide_eq_true_eq]
  constructor
  · rintro ⟨q1, p, q2, q3, q4⟩
    rw [k_one t.map h1 h8 q2] at q4
    have e1 := Int.emod_nonneg p (show k ≠ 0 by omega)
    have e2 := Int.emod_lt_of_pos p (show 0 < k by omega)
    have e3 : p % k ≤ p := by
      rcases Int.lt_or_le p k with h | h
      · rw [Int.emod_eq_of_lt q2 h]; omega
      · omega
    exact ⟨q1, by omega, by omega⟩
  · rintro ⟨q1, q2, q3⟩
    refine ⟨q1, j, by omega, q3, ?_⟩
    rw [k_one t.map h1 h8 (by omega), Int.emod_eq_of_lt (by omega) q2]
    simp

theorem rem_nat {n m : Int} (h : 0 ≤ n) (hm : 0 < m) : ∃ k : Nat, Int.tmod n m = (k : Int) ∧ (k : Int) < m := by
  have h1 := Int.emod_nonneg n (show m ≠ 0 by omega)
  have h2 := Int.emod_lt_of_pos n hm
  refine ⟨(n % m).toNat, ?_, by omega⟩
  rw [Int.tmod_eq_emod_of_nonneg h]
  omega

/-- A log of whatever records. -/
structure PT (L : LogD) (f : Int → RecD) (mp : MapD) (room c : Int) (N : Nat) : Prop where
  inv : L.Inv f N
  next : L.next = c
  map : L.map = mp
  room : L.room = room
  trim : L.trim = 0
theorem pt_put {w0 w : World} {p : Nat} {L : LogD} {f : Int → RecD} {mp : MapD} {room c : Int} {N : Nat} (h : At w0 w p L) (t : PT L f mp room c N) (hp : Pow w0) (site seq : Int) (hf : f c = lawR site seq) (s0 : 0 ≤ site) (s1 : site < 8) (q0 : 1 ≤ seq) (q1 : seq ≤ 1048576) (hc : c ≤ 1000) (hm : mp.length ≤ 1000) (hN : 81 * ((N : Int) + 1) ≤ room) (hN2 : N ≤ 1000) :
    Calls Tryz.prog 17 #[.pointer (some ⟨p, 0, none⟩), .int .i64 c, rv site seq] w fun e w' => e = .returned (.int .i64 0) ∧ ∃ L', At w0 w' p L' ∧ PT L' f mp room (c + 1) (N + 1) ∧ L'.head = L.head ∧ L'.ops = L.ops ∧ L'.gone = L.gone := by
  have hn := t.next
  subst hn
  refine (put_at h t.inv hp site seq hf s0 s1 q0 q1 (by omega) (by rw [t.room]; omega) (by omega) (by rw [t.map]; omega)).mono ?_
  rintro e w' ⟨he, hA, hI, hE⟩
  refine ⟨he, _, hA, ⟨hI, ?_, ?_, ?_, ?_⟩, ?_, ?_, ?_⟩
  · rw [hE]
  · rw [hE]; exact t.map
  · rw [hE]; exact t.room
  · rw [hE]; exact t.trim
  · rw [hE]
  · rw [hE]
  · rw [hE]

end Go.Proofs.YtjbjjfndkpcciaaGreatDoor

/- The laws' known(): a record there and back: it answers true in whatever world that has the library's table of powers of ten. Own work; no statement. -/
set_option linter.unusedSimpArgs false
set_option linter.unusedVariables false
namespace Go.Proofs.YtjbjjfndkpcciaaGreatDoor
open Go.RowKit Go.Shelf Go.Sort

def knownR : RecD := ⟨1, 3, [2, 2], ⟨#[107, 101, 121]⟩, ⟨#[97, 61, 98]⟩⟩
def knownS : RecD := ⟨0, 9, [], ⟨#[107]⟩, ⟨#[]⟩⟩
set_option maxRecDepth 100000 in
theorem kP1 : parseR [49, 58, 51, 32, 91, 50, 32, 50, 93, 32, 107, 101, 121, 61, 97, 61, 98] = (knownR, 0) := by kernel_rfl
set_option maxRecDepth 100000 in
theorem kP2 : parseR [49, 58, 50, 32, 91, 48, 32, 50, 93, 32, 107, 61, 118] = (zeroR, 13) := by kernel_rfl
set_option maxRecDepth 100000 in
theorem kP3 : parseR [49, 58, 51, 32, 91, 50, 93, 32, 75, 101, 121, 61, 118] = (zeroR, 3) := by kernel_rfl
set_option maxRecDepth 100000 in
theorem kP4 : parseR [49, 58, 51, 32, 91, 50, 93, 32, 107, 32, 118] = (zeroR, 2) := by kernel_rfl
theorem kText : textR knownR = ⟨#[49, 58, 51, 32, 91, 50, 32, 50, 93, 32, 107, 101, 121, 61, 97, 61, 98]⟩ := by
  have h1 : writtenL [2, 2] = 2 := by decide
  have h2 : textL [2, 2] = [91, 50, 32, 50, 93] := by simp [textL, h1, numsTo, itoa_digit]
  have h3 : Lib.itoa 1 = [49] := itoa_digit 1 (by omega) (by omega)
  have h4 : Lib.itoa 3 = [51] := itoa_digit 3 (by omega) (by omega)
  unfold textR knownR
  dsimp only
  rw [h2, h3, h4]
  rfl
theorem kBefore1 : beforeR knownS knownR = true := by decide
theorem kBefore2 : beforeR knownR knownR = false := by decide
theorem kSameR1 : sameR knownR knownR = true := by decide +kernel
theorem kSameR2 : sameR knownR knownS = false := by decide +kernel
theorem kCheckR1 : checkR knownR 1 = 1 := by decide +kernel
theorem kCheckR2 : checkR knownR 2 = 0 := by decide +kernel
theorem kPlaced : placedTo [knownS, knownR, knownS] 0 3 = [(0, knownS), (2, knownS)] := by rfl

end Go.Proofs.YtjbjjfndkpcciaaGreatDoor
