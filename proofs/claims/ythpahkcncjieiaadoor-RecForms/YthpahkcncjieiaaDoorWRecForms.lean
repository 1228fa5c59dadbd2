/- The walk of RecForms. Own work; no statement. -/
import Derived.Test.YthpahkcncjieiaaDoorRefI
import Derived.Test.YthpahkcncjieiaaDoorRefR
import Derived.Test.YthpahkcncjieiaaDoorWRecDeps
set_option linter.unusedSimpArgs false
set_option linter.unusedVariables false
namespace Go.Proofs.YthpahkcncjieiaaDoor
open Go.RowKit Go.Sort

theorem forms_check {m seq : Int} (h0 : 0 ≤ m) (h1 : m ≤ 7) (hs : 0 ≤ seq) (hs' : seq ≤ 65535) : checkR ⟨m, 1 + seq, [], ⟨#[107]⟩, ⟨#[118]⟩⟩ 8 = 0 := by
  have hk : isKeyL (⟨#[107]⟩ : ByteArray).data.toList = true := by decide +kernel
  have hv : checkValL (⟨#[118]⟩ : ByteArray).data.toList = 0 := by decide +kernel
  have hc : checkL [] 8 = 0 := by decide +kernel
  have hg : geti [] m = 0 := by unfold geti; split <;> simp
  unfold checkR
  dsimp only
  rw [if_neg (by omega), if_pos hc, hg, if_neg (by omega), if_pos hk]
  exact hv

theorem forms_size {m seq : Int} (h0 : 0 ≤ m) (h1 : m ≤ 7) (hs : 0 ≤ seq) (hs' : seq ≤ 65535) : 10 ≤ (textR ⟨m, 1 + seq, [], ⟨#[107]⟩, ⟨#[118]⟩⟩).size ∧ (textR ⟨m, 1 + seq, [], ⟨#[107]⟩, ⟨#[118]⟩⟩).size ≤ 50 := by
  have l1 := Lib.itoa_length_le m (by omega) (by omega)
  have l2 := Lib.itoa_length_le (1 + seq) (by omega) (by omega)
  have n1 : 0 < (Lib.itoa m).length := by rw [itoa_nat _ h0]; exact List.length_pos_iff.2 (decDigits_ne _)
  have n2 : 0 < (Lib.itoa (1 + seq)).length := by rw [itoa_nat _ (by omega)]; exact List.length_pos_iff.2 (decDigits_ne _)
  have l3 : (textL []).length = 2 := by decide +kernel
  rw [Lib.size_eq, textR_list]
  simp only [List.length_append, List.length_cons, List.length_nil, l3]
  omega

theorem sameR_refl (r : RecD) : sameR r r = true := by
  unfold sameR
  simp only [decide_true, Bool.true_and]
  rw [same_iff]
  exact fun _ => rfl

/-- What is read is a record that may be. -/
theorem parseR_check {s : List UInt8} (h : (parseR s).2 = 0) : checkR (parseR s).1 8 = 0 := by
  unfold parseR at h ⊢
  cases hs : splitR s with
  | none =>
    rw [hs] at h
    exact absurd h (by decide +kernel : ¬ (parseP false [] [] [] [] []).2 = 0)
  | some p =>
    rw [hs] at h
    dsimp only at h ⊢
    unfold parseP at h ⊢
    split at h
    · rename_i hh
      rw [if_pos hh]
      split at h
      · rename_i h0
        rw [if_pos h0]
        split at h
        · rename_i hc
          rw [if_pos hc]
          exact hc
        · rename_i hc
          exact absurd h hc
      · rename_i h0
        exact absurd h h0
    · cases h
theorem parseR_dep (s : List UInt8) : (parseR s).1.dep.length ≤ 8 := by
  unfold parseR
  split
  · unfold parseP
    split
    · split
      · split
        · exact parseL_len _
        · exact Nat.zero_le _
      · exact Nat.zero_le _
    · exact Nat.zero_le _
  · exact Nat.zero_le _

/-- What a text that is not as long as a record's own words is read as: nothing, or another record. -/
theorem forms_other {t : ByteArray} {r : RecD} (hl : t.size ≠ (textR r).size) (h : (parseR t.data.toList).2 = 0) : textR (parseR t.data.toList).1 = t ∧ sameR (parseR t.data.toList).1 r = false := by
  have e := text_parseR h
  have e1 : textR (parseR t.data.toList).1 = t := by
    apply ByteArray.ext
    exact Array.toList_inj.1 e
  refine ⟨e1, ?_⟩
  cases hs : sameR (parseR t.data.toList).1 r with
  | false => rfl
  | true =>
    exfalso
    have := same_text hs
    rw [e1] at this
    exact hl (by rw [this])

theorem forms_facts {t : ByteArray} {r : RecD} (hl : t.size ≠ (textR r).size) (hs : t.size ≤ 60) (h : (parseR t.data.toList).2 = 0) :
    0 ≤ (parseR t.data.toList).1.site ∧ (parseR t.data.toList).1.site ≤ 7 ∧ 1 ≤ (parseR t.data.toList).1.seq ∧ (parseR t.data.toList).1.seq ≤ 1048576 ∧ InR (parseR t.data.toList).1.dep ∧ (parseR t.data.toList).1.key.size ≤ 60 ∧ (parseR t.data.toList).1.val.size ≤ 60 ∧
      textR (parseR t.data.toList).1 = t ∧ sameR (parseR t.data.toList).1 r = false := by
  obtain ⟨e1, e2⟩ := forms_other hl h
  obtain ⟨a1, a2, a3, a4, a5, a6, a7, a8, a9, a10, a11⟩ := check_parts (parseR_check h)
  have hz : (textR (parseR t.data.toList).1).size ≤ 60 := by rw [e1]; exact hs
  rw [Lib.size_eq, textR_list] at hz
  simp only [List.length_append, List.length_cons] at hz
  refine ⟨a3, by omega, a5, a6, inR_of_inS a8, ?_, ?_, e1, e2⟩
  · rw [Lib.size_eq]; omega
  · rw [Lib.size_eq]; omega

theorem ahead_parse {m seq : Int} (h0 : 0 ≤ m) {tx t : ByteArray} (htx : textR ⟨m, 1 + seq, [], ⟨#[107]⟩, ⟨#[118]⟩⟩ = tx) (ht : ⟨#[48]⟩ ++ tx = t) : (parseR t.data.toList).2 = 2 := by
  have h := nought_parse ⟨m, 1 + seq, [], ⟨#[107]⟩, ⟨#[118]⟩⟩ h0
  rw [htx] at h
  rw [← ht]
  simpa using h
theorem ins_size (tx : ByteArray) (i : Nat) (h : i < tx.size) : (tx.extract 0 i ++ ⟨#[32]⟩ ++ tx.extract i tx.size).size = tx.size + 1 := by
  simp only [ByteArray.size_append, ByteArray.size_extract]
  have : (⟨#[32]⟩ : ByteArray).size = 1 := rfl
  omega
theorem ahead_size (tx : ByteArray) : ((⟨#[48]⟩ : ByteArray) ++ tx).size = tx.size + 1 := by
  simp only [ByteArray.size_append]
  have : (⟨#[48]⟩ : ByteArray).size = 1 := rfl
  omega
theorem less_size (tx : ByteArray) (i : Nat) (h : i < tx.size) : (tx.extract 0 i ++ tx.extract (i + 1) tx.size).size = tx.size - 1 := by
  simp only [ByteArray.size_append, ByteArray.size_extract]
  omega

set_option maxRecDepth 100000 in
set_option maxHeartbeats 4000000 in
theorem recForms0 (site seq at_ how : Int) (w : World) (ws0 : 0 ≤ site) (ws1 : site ≤ 255) (hs0 : 0 ≤ seq) (hs1 : seq ≤ 65535) (h0 : 0 ≤ at_) (h1 : at_ ≤ 255) (h2 : 0 ≤ how) (h3 : how ≤ 255) (hh : Int.tmod how 3 = 0) (hp : Pow w) :
    Calls Tryd.prog 4 #[.int .u8 site, .int .u16 seq, .int .u8 at_, .int .u8 how] w fun e w' => e = .returned (.bool true) ∧ Below w.heap.size w w' := by
  obtain ⟨m, hm, hm0, hm1⟩ : ∃ m, Int.tmod site 8 = m ∧ 0 ≤ m ∧ m ≤ 7 := ⟨_, rfl, by rw [Int.tmod_eq_emod_of_nonneg ws0]; omega, by rw [Int.tmod_eq_emod_of_nonneg ws0]; omega⟩
  have hck := hide (forms_check hm0 hm1 hs0 hs1)
  obtain ⟨hz0, hz1⟩ := forms_size hm0 hm1 hs0 hs1
  go_enter Tryd.func4, Tryd.ntmps4
  go_wp2_with fail
  refine (recKnown_calls _ hp).mono ?_
  rintro e w1 ⟨rfl, hB⟩
  have hP := hp.below hB
  clear hp
  go_wp2_with fail
  obtain ⟨Wr, hWr⟩ : ∃ W2, w1.alloc (.cells #[.int .i64 m, .int .i64 (1 + seq), .slice none 0 0, .string ⟨#[107]⟩, .string ⟨#[118]⟩] 30) = W2 := ⟨_, rfl⟩
  have hb : Below w1.heap.size w1 Wr := by rw [← hWr]; exact box_below w1 _
  have Xr : Wr.heap[w1.heap.size]? = some (.cells #[.int .i64 m, .int .i64 (1 + seq), .slice none 0 0, .string ⟨#[107]⟩, .string ⟨#[118]⟩] 30 (0, 0)) := by rw [← hWr]; exact World.alloc_heap_new w1 _
  rw [hWr]
  replace hP := hP.below hb
  replace hB := hB.trans (hb.mono hB.size)
  clear hb hWr
  generalize w1.heap.size = pr at *
  have u := recText_calls _ ⟨m, 1 + seq, [], ⟨#[107]⟩, ⟨#[118]⟩⟩ Wr (show IsRec Wr (.agg #[.int .i64 m, .int .i64 (1 + seq), .slice none 0 0, .string ⟨#[107]⟩, .string ⟨#[118]⟩]) ⟨m, 1 + seq, [], ⟨#[107]⟩, ⟨#[118]⟩⟩ from ⟨none, 0, rfl, IsNums.nil _ _ _ _⟩) (by dsimp only; omega) (by dsimp only; omega) (by dsimp only; omega) (by dsimp only; omega) (by simp) (by simp [InR]) (by dsimp only; decide) (by dsimp only; decide) hP
  refine u.mono ?_
  rintro e w2 ⟨rfl, hb⟩
  clear u
  replace Xr := keepB Xr hb
  replace hP := hP.below hb
  replace hB := hB.trans (hb.mono hB.size)
  clear hb
  obtain ⟨tx, htx⟩ : ∃ tx, textR ⟨m, 1 + seq, [], ⟨#[107]⟩, ⟨#[118]⟩⟩ = tx := ⟨_, rfl⟩
  rw [htx] at hz0 hz1 ⊢
  have Htx := hide htx
  clear htx
  obtain ⟨i, hi, hil⟩ : ∃ i : Nat, Int.tmod at_ (tx.size : Int) = (i : Int) ∧ i < tx.size := by
    have := Int.emod_nonneg at_ (show (tx.size : Int) ≠ 0 by omega)
    have := Int.emod_lt_of_pos at_ (show 0 < (tx.size : Int) by omega)
    refine ⟨(at_ % (tx.size : Int)).toNat, ?_, ?_⟩
    · rw [Int.tmod_eq_emod_of_nonneg h0]; omega
    · omega
  have HXr := hide Xr
  have HhP := hide hP
  have HhB := hide hB
  clear Xr hP hB
  have hil' : (i : Int) ≤ (tx.size : Int) := by omega
  go_wp2_with fail
  (go_region)
  go_wp2_with fail
  obtain ⟨t, ht⟩ : ∃ t : ByteArray, tx.extract 0 i ++ ⟨#[32]⟩ ++ tx.extract i tx.size = t := ⟨_, rfl⟩
  have hts : t.size = tx.size + 1 := by rw [← ht]; exact ins_size tx i hil
  rw [ht]
  obtain ⟨w3, hw3⟩ : ∃ w3, w2.drew = w3 := ⟨_, rfl⟩
  have hb : Below w2.heap.size w2 w3 := by rw [← hw3]; exact (Below.refl _ _).drew
  rw [hw3]
  clear hw3
  have Xr := keepB HXr.out hb
  have hP := HhP.out.below hb
  have hB := HhB.out.trans (hb.mono HhB.out.size)
  clear HXr HhP HhB hb
  have hff := trivial
  have hfacts := hide (fun h => forms_facts (t := t) (r := ⟨m, 1 + seq, [], ⟨#[107]⟩, ⟨#[118]⟩⟩) (by rw [Htx.out]; omega) (by omega) h)
  have hdl := parseR_dep t.data.toList
  have u := recParseB_calls t w3 (by omega)
  have u2 := fun w => refParseRec_calls t w (by omega)
  clear ht
  obtain ⟨⟨xr, f⟩, hp⟩ : ∃ p, parseR t.data.toList = p := ⟨_, rfl⟩
  simp only [hp] at u u2 hdl hfacts hff
  obtain ⟨xsite, xseq, xdep, xkey, xval⟩ := xr
  dsimp only at hdl
  clear hp
  have U2 := hide u2
  clear u2
  refine u.mono ?_
  rintro e w4 ⟨v, rfl, ⟨vd, rfl, hown⟩, hb⟩
  obtain ⟨xa, xc, rfl⟩ := ownsRow_slice hown
  have hx := IsNums.of_row hown
  clear u hown
  dsimp only at hx ⊢
  replace Xr := keepB Xr hb
  replace hP := hP.below hb
  replace hB := hB.trans (hb.mono hB.size)
  clear hb
  have ZXr := hide Xr
  have ZhP := hide hP
  have Zhx := hide hx
  have ZhB := hide hB
  clear Xr hP hx hB
  go_wp2_with fail
  have Xr := ZXr.out
  have hP := ZhP.out
  have hx := Zhx.out
  have hB := ZhB.out
  clear ZXr ZhP Zhx ZhB
  obtain ⟨W5, hW5⟩ : ∃ W2, w4.alloc (.cells #[.int .i64 xsite, .int .i64 xseq, .slice xa xdep.length xc, .string xkey, .string xval] 30) = W2 := ⟨_, rfl⟩
  have hb : Below w4.heap.size w4 W5 := by rw [← hW5]; exact box_below w4 _
  have Xx : W5.heap[w4.heap.size]? = some (.cells #[.int .i64 xsite, .int .i64 xseq, .slice xa xdep.length xc, .string xkey, .string xval] 30 (0, 0)) := by rw [← hW5]; exact World.alloc_heap_new w4 _
  rw [hW5]
  replace Xr := keepB Xr hb
  replace hP := hP.below hb
  replace hx := hx.below hb
  replace hB := hB.trans (hb.mono hB.size)
  clear hb
  clear hW5
  generalize w4.heap.size = px at *
  refine (U2.out W5).mono ?_
  rintro e w6 ⟨v, rfl, ⟨ya, yc, rfl, hy⟩, hb⟩
  clear U2
  dsimp only at hy ⊢
  replace Xr := keepB Xr hb
  replace Xx := keepB Xx hb
  replace hP := hP.below hb
  replace hx := hx.below hb
  replace hB := hB.trans (hb.mono hB.size)
  clear hb
  have ZXr := hide Xr
  have ZXx := hide Xx
  have ZhP := hide hP
  have Zhx := hide hx
  have Zhy := hide hy
  have ZhB := hide hB
  clear Xr Xx hP hx hy hB
  go_wp2_with fail
  have Xr := ZXr.out
  have Xx := ZXx.out
  have hP := ZhP.out
  have hx := Zhx.out
  have hy := Zhy.out
  have hB := ZhB.out
  clear ZXr ZXx ZhP Zhx Zhy ZhB
  obtain ⟨W7, hW7⟩ : ∃ W2, w6.alloc (.cells #[.int .i64 xsite, .int .i64 xseq, .slice ya xdep.length yc, .string xkey, .string xval] 33) = W2 := ⟨_, rfl⟩
  have hb : Below w6.heap.size w6 W7 := by rw [← hW7]; exact box_below w6 _
  have Xy : W7.heap[w6.heap.size]? = some (.cells #[.int .i64 xsite, .int .i64 xseq, .slice ya xdep.length yc, .string xkey, .string xval] 33 (0, 0)) := by rw [← hW7]; exact World.alloc_heap_new w6 _
  rw [hW7]
  replace Xr := keepB Xr hb
  replace Xx := keepB Xx hb
  replace hP := hP.below hb
  replace hx := hx.below hb
  replace hy := hy.below hb
  replace hB := hB.trans (hb.mono hB.size)
  clear hb
  clear hW7
  generalize w6.heap.size = py at *
  have rx := fun d os => (show IsRec (grow (redrawn W7 d) os) (.agg #[.int .i64 xsite, .int .i64 xseq, .slice xa xdep.length xc, .string xkey, .string xval]) ⟨xsite, xseq, xdep, xkey, xval⟩ from ⟨xa, xc, rfl, hx.below (below_regrown W7 d os)⟩)
  have ry := fun d os => (show IsRec (grow (redrawn W7 d) os) (.agg #[.int .i64 xsite, .int .i64 xseq, .slice ya xdep.length yc, .string xkey, .string xval]) ⟨xsite, xseq, xdep, xkey, xval⟩ from ⟨ya, yc, rfl, hy.below (below_regrown W7 d os)⟩)
  have q1 := hide (fun d os => Calls.regrown_of (recOfLaw_calls _ _ _ (rx d os)))
  have q2 := hide (fun d os => Calls.regrown_of (refSameRec_calls _ _ _ _ _ (rx d os) (ry d os) (by dsimp only; omega) (by dsimp only; omega)))
  rw [sameR_refl] at q2
  have kx0 := cell_regrown (cell_at Xx 0)
  have ky0 := cell_regrown (cell_at Xy 0)
  have kx1 := cell_regrown (cell_at Xx 1)
  have ky1 := cell_regrown (cell_at Xy 1)
  have kx2 := cell_regrown (cell_at Xx 2)
  have ky2 := cell_regrown (cell_at Xy 2)
  have kx3 := cell_regrown (cell_at Xx 3)
  have ky3 := cell_regrown (cell_at Xy 3)
  have kx4 := cell_regrown (cell_at Xx 4)
  have ky4 := cell_regrown (cell_at Xy 4)
  clear rx ry
  have ZXr := hide Xr
  have ZXx := hide Xx
  have ZXy := hide Xy
  have ZhP := hide hP
  have Zhx := hide hx
  have Zhy := hide hy
  have ZhB := hide hB
  clear Xr Xx Xy hP hx hy hB
  refine wp_region_quiet_below (by kernel_rfl) (by kernel_rfl) ?_
  first | go_big_quiet_step (fail) | quiet_step (fail)
  first | go_big_quiet_step (fail) | quiet_step (fail)
  first | go_big_quiet_step (fail) | quiet_step (fail)
  first | go_big_quiet_step (fail) | quiet_step (fail)
  first | go_big_quiet_step (fail) | quiet_step (fail)
  first | go_big_quiet_step (exact q1.out _ _) | quiet_step (exact q1.out _ _)
  first | go_big_quiet_step (fail) | quiet_step (fail)
  first | go_big_quiet_step (exact q2.out _ _) | quiet_step (exact q2.out _ _)
  first | go_big_quiet_step (fail) | quiet_step (fail)
  first | go_big_quiet_step (fail) | quiet_step (fail)
  first | go_big_quiet_step (fail) | quiet_step (fail)
  first | go_big_quiet_step (fail) | quiet_step (fail)
  first | go_big_quiet_step (fail) | quiet_step (fail)
  first | go_big_quiet_step (fail) | quiet_step (fail)
  first | go_big_quiet_step (fail) | quiet_step (fail)
  first | go_big_quiet_step (fail) | quiet_step (fail)
  first | go_big_quiet_step (fail) | quiet_step (fail)
  first | go_big_quiet_step (fail) | quiet_step (fail)
  first | go_big_quiet_step (fail) | quiet_step (fail)
  refine wpQuiet_nil ?_
  intro _ hw'
  obtain ⟨⟨dq, osq⟩, hw''⟩ := hw'
  subst hw''
  have hb := below_regrown W7 dq osq
  generalize grow (redrawn W7 dq) osq = w8 at *
  clear q1 q2 kx0 ky0 kx1 ky1 kx2 ky2 kx3 ky3 kx4 ky4
  have Xr := ZXr.out
  have Xx := ZXx.out
  have Xy := ZXy.out
  have hP := ZhP.out
  have hx := Zhx.out
  have hy := Zhy.out
  have hB := ZhB.out
  clear ZXr ZXx ZXy ZhP Zhx Zhy ZhB
  replace Xr := keepB Xr hb
  replace Xx := keepB Xx hb
  replace Xy := keepB Xy hb
  replace hP := hP.below hb
  replace hx := hx.below hb
  replace hy := hy.below hb
  replace hB := hB.trans (hb.mono hB.size)
  clear hb
  clear Xy hy
  by_cases hf : f = 0
  case neg =>
    have hf' : (f != 0) = true := by simp [hf]
    clear Xr Xx hx hP hfacts
    go_wp2_with fail
    go_ret
    exact ⟨rfl, hB⟩
  obtain ⟨b1, b2, b3, b4, b5, b6, b7, b8, b9⟩ := hfacts.out hf
  clear hfacts
  subst hf
  have b8 := hide b8
  have b9 := hide b9
  have b5 := hide b5
  have M0 := cell_at Xx 0
  have M1 := cell_at Xx 1
  have M2 := cell_at Xx 2
  have M3 := cell_at Xx 3
  have M4 := cell_at Xx 4
  simp only [List.getElem?_toArray, List.getElem?_cons_zero, List.getElem?_cons_succ] at M0 M1 M2 M3 M4
  have ZXr := hide Xr
  have ZXx := hide Xx
  have Zhx := hide hx
  have ZhP := hide hP
  have ZhB := hide hB
  clear Xr Xx hx hP hB
  go_wp2_with fail
  clear M0 M1 M2 M3 M4
  have Xr := ZXr.out
  have Xx := ZXx.out
  have hx := Zhx.out
  have hP := ZhP.out
  have hB := ZhB.out
  clear ZXr ZXx Zhx ZhP ZhB
  have u := recText_calls _ ⟨xsite, xseq, xdep, xkey, xval⟩ w8 (show IsRec w8 (.agg #[.int .i64 xsite, .int .i64 xseq, .slice xa xdep.length xc, .string xkey, .string xval]) ⟨xsite, xseq, xdep, xkey, xval⟩ from ⟨xa, xc, rfl, hx⟩) (by dsimp only; omega) (by dsimp only; omega) (by dsimp only; omega) (by dsimp only; omega) (by dsimp only; omega) b5.out (by dsimp only; omega) (by dsimp only; omega) hP
  rw [b8.out] at u
  refine u.mono ?_
  rintro e w9 ⟨rfl, hb⟩
  clear u
  replace Xr := keepB Xr hb
  replace Xx := keepB Xx hb
  replace hx := hx.below hb
  replace hP := hP.below hb
  replace hB := hB.trans (hb.mono hB.size)
  clear hb
  have M0 := cell_at Xx 0
  have M1 := cell_at Xx 1
  have M2 := cell_at Xx 2
  have M3 := cell_at Xx 3
  have M4 := cell_at Xx 4
  simp only [List.getElem?_toArray, List.getElem?_cons_zero, List.getElem?_cons_succ] at M0 M1 M2 M3 M4
  have N0 := cell_at Xr 0
  have N1 := cell_at Xr 1
  have N2 := cell_at Xr 2
  have N3 := cell_at Xr 3
  have N4 := cell_at Xr 4
  simp only [List.getElem?_toArray, List.getElem?_cons_zero, List.getElem?_cons_succ] at N0 N1 N2 N3 N4
  have ZXr := hide Xr
  have ZXx := hide Xx
  have Zhx := hide hx
  have ZhP := hide hP
  have ZhB := hide hB
  clear Xr Xx hx hP hB
  go_wp2_with fail
  clear M0 M1 M2 M3 M4
  clear N0 N1 N2 N3 N4
  have Xr := ZXr.out
  have Xx := ZXx.out
  have hx := Zhx.out
  have hP := ZhP.out
  have hB := ZhB.out
  clear ZXr ZXx Zhx ZhP ZhB
  have u := recSame_calls _ _ ⟨xsite, xseq, xdep, xkey, xval⟩ ⟨m, 1 + seq, [], ⟨#[107]⟩, ⟨#[118]⟩⟩ w9 (show IsRec w9 (.agg #[.int .i64 xsite, .int .i64 xseq, .slice xa xdep.length xc, .string xkey, .string xval]) ⟨xsite, xseq, xdep, xkey, xval⟩ from ⟨xa, xc, rfl, hx⟩) (show IsRec w9 (.agg #[.int .i64 m, .int .i64 (1 + seq), .slice none 0 0, .string ⟨#[107]⟩, .string ⟨#[118]⟩]) ⟨m, 1 + seq, [], ⟨#[107]⟩, ⟨#[118]⟩⟩ from ⟨none, 0, rfl, IsNums.nil _ _ _ _⟩) (by dsimp only; omega) (by simp)
  rw [b9.out] at u
  refine u.mono ?_
  rintro e w10 ⟨rfl, hb⟩
  clear u
  replace hB := hB.trans (hb.mono hB.size)
  clear hb Xr Xx hx hP
  go_wp2_with fail
  go_ret
  exact ⟨rfl, hB⟩
set_option maxRecDepth 100000 in
set_option maxHeartbeats 4000000 in
theorem recForms1 (site seq at_ how : Int) (w : World) (ws0 : 0 ≤ site) (ws1 : site ≤ 255) (hs0 : 0 ≤ seq) (hs1 : seq ≤ 65535) (h0 : 0 ≤ at_) (h1 : at_ ≤ 255) (h2 : 0 ≤ how) (h3 : how ≤ 255) (hh : Int.tmod how 3 = 1) (hp : Pow w) :
    Calls Tryd.prog 4 #[.int .u8 site, .int .u16 seq, .int .u8 at_, .int .u8 how] w fun e w' => e = .returned (.bool true) ∧ Below w.heap.size w w' := by
  obtain ⟨m, hm, hm0, hm1⟩ : ∃ m, Int.tmod site 8 = m ∧ 0 ≤ m ∧ m ≤ 7 := ⟨_, rfl, by rw [Int.tmod_eq_emod_of_nonneg ws0]; omega, by rw [Int.tmod_eq_emod_of_nonneg ws0]; omega⟩
  have hck := hide (forms_check hm0 hm1 hs0 hs1)
  obtain ⟨hz0, hz1⟩ := forms_size hm0 hm1 hs0 hs1
  go_enter Tryd.func4, Tryd.ntmps4
  go_wp2_with fail
  refine (recKnown_calls _ hp).mono ?_
  rintro e w1 ⟨rfl, hB⟩
  have hP := hp.below hB
  clear hp
  go_wp2_with fail
  obtain ⟨Wr, hWr⟩ : ∃ W2, w1.alloc (.cells #[.int .i64 m, .int .i64 (1 + seq), .slice none 0 0, .string ⟨#[107]⟩, .string ⟨#[118]⟩] 30) = W2 := ⟨_, rfl⟩
  have hb : Below w1.heap.size w1 Wr := by rw [← hWr]; exact box_below w1 _
  have Xr : Wr.heap[w1.heap.size]? = some (.cells #[.int .i64 m, .int .i64 (1 + seq), .slice none 0 0, .string ⟨#[107]⟩, .string ⟨#[118]⟩] 30 (0, 0)) := by rw [← hWr]; exact World.alloc_heap_new w1 _
  rw [hWr]
  replace hP := hP.below hb
  replace hB := hB.trans (hb.mono hB.size)
  clear hb hWr
  generalize w1.heap.size = pr at *
  have u := recText_calls _ ⟨m, 1 + seq, [], ⟨#[107]⟩, ⟨#[118]⟩⟩ Wr (show IsRec Wr (.agg #[.int .i64 m, .int .i64 (1 + seq), .slice none 0 0, .string ⟨#[107]⟩, .string ⟨#[118]⟩]) ⟨m, 1 + seq, [], ⟨#[107]⟩, ⟨#[118]⟩⟩ from ⟨none, 0, rfl, IsNums.nil _ _ _ _⟩) (by dsimp only; omega) (by dsimp only; omega) (by dsimp only; omega) (by dsimp only; omega) (by simp) (by simp [InR]) (by dsimp only; decide) (by dsimp only; decide) hP
  refine u.mono ?_
  rintro e w2 ⟨rfl, hb⟩
  clear u
  replace Xr := keepB Xr hb
  replace hP := hP.below hb
  replace hB := hB.trans (hb.mono hB.size)
  clear hb
  obtain ⟨tx, htx⟩ : ∃ tx, textR ⟨m, 1 + seq, [], ⟨#[107]⟩, ⟨#[118]⟩⟩ = tx := ⟨_, rfl⟩
  rw [htx] at hz0 hz1 ⊢
  have Htx := hide htx
  clear htx
  obtain ⟨i, hi, hil⟩ : ∃ i : Nat, Int.tmod at_ (tx.size : Int) = (i : Int) ∧ i < tx.size := by
    have := Int.emod_nonneg at_ (show (tx.size : Int) ≠ 0 by omega)
    have := Int.emod_lt_of_pos at_ (show 0 < (tx.size : Int) by omega)
    refine ⟨(at_ % (tx.size : Int)).toNat, ?_, ?_⟩
    · rw [Int.tmod_eq_emod_of_nonneg h0]; omega
    · omega
  have HXr := hide Xr
  have HhP := hide hP
  have HhB := hide hB
  clear Xr hP hB
  have hil' : (i : Int) ≤ (tx.size : Int) := by omega
  go_wp2_with fail
  skip
  skip
  obtain ⟨t, ht⟩ : ∃ t : ByteArray, ⟨#[48]⟩ ++ tx = t := ⟨_, rfl⟩
  have hts : t.size = tx.size + 1 := by rw [← ht]; exact ahead_size tx
  rw [ht]
  obtain ⟨w3, hw3⟩ : ∃ w3, w2 = w3 := ⟨_, rfl⟩
  have hb : Below w2.heap.size w2 w3 := by rw [← hw3]; exact Below.refl _ _
  rw [hw3]
  clear hw3
  have Xr := keepB HXr.out hb
  have hP := HhP.out.below hb
  have hB := HhB.out.trans (hb.mono HhB.out.size)
  clear HXr HhP HhB hb
  have hff := ahead_parse hm0 Htx.out ht
  have hfacts := hide (fun h => forms_facts (t := t) (r := ⟨m, 1 + seq, [], ⟨#[107]⟩, ⟨#[118]⟩⟩) (by rw [Htx.out]; omega) (by omega) h)
  have hdl := parseR_dep t.data.toList
  have u := recParseB_calls t w3 (by omega)
  have u2 := fun w => refParseRec_calls t w (by omega)
  clear ht
  obtain ⟨⟨xr, f⟩, hp⟩ : ∃ p, parseR t.data.toList = p := ⟨_, rfl⟩
  simp only [hp] at u u2 hdl hfacts hff
  obtain ⟨xsite, xseq, xdep, xkey, xval⟩ := xr
  dsimp only at hdl
  clear hp
  have U2 := hide u2
  clear u2
  refine u.mono ?_
  rintro e w4 ⟨v, rfl, ⟨vd, rfl, hown⟩, hb⟩
  obtain ⟨xa, xc, rfl⟩ := ownsRow_slice hown
  have hx := IsNums.of_row hown
  clear u hown
  dsimp only at hx ⊢
  replace Xr := keepB Xr hb
  replace hP := hP.below hb
  replace hB := hB.trans (hb.mono hB.size)
  clear hb
  have ZXr := hide Xr
  have ZhP := hide hP
  have Zhx := hide hx
  have ZhB := hide hB
  clear Xr hP hx hB
  go_wp2_with fail
  have Xr := ZXr.out
  have hP := ZhP.out
  have hx := Zhx.out
  have hB := ZhB.out
  clear ZXr ZhP Zhx ZhB
  obtain ⟨W5, hW5⟩ : ∃ W2, w4.alloc (.cells #[.int .i64 xsite, .int .i64 xseq, .slice xa xdep.length xc, .string xkey, .string xval] 30) = W2 := ⟨_, rfl⟩
  have hb : Below w4.heap.size w4 W5 := by rw [← hW5]; exact box_below w4 _
  have Xx : W5.heap[w4.heap.size]? = some (.cells #[.int .i64 xsite, .int .i64 xseq, .slice xa xdep.length xc, .string xkey, .string xval] 30 (0, 0)) := by rw [← hW5]; exact World.alloc_heap_new w4 _
  rw [hW5]
  replace Xr := keepB Xr hb
  replace hP := hP.below hb
  replace hx := hx.below hb
  replace hB := hB.trans (hb.mono hB.size)
  clear hb
  clear hW5
  generalize w4.heap.size = px at *
  refine (U2.out W5).mono ?_
  rintro e w6 ⟨v, rfl, ⟨ya, yc, rfl, hy⟩, hb⟩
  clear U2
  dsimp only at hy ⊢
  replace Xr := keepB Xr hb
  replace Xx := keepB Xx hb
  replace hP := hP.below hb
  replace hx := hx.below hb
  replace hB := hB.trans (hb.mono hB.size)
  clear hb
  have ZXr := hide Xr
  have ZXx := hide Xx
  have ZhP := hide hP
  have Zhx := hide hx
  have Zhy := hide hy
  have ZhB := hide hB
  clear Xr Xx hP hx hy hB
  go_wp2_with fail
  have Xr := ZXr.out
  have Xx := ZXx.out
  have hP := ZhP.out
  have hx := Zhx.out
  have hy := Zhy.out
  have hB := ZhB.out
  clear ZXr ZXx ZhP Zhx Zhy ZhB
  obtain ⟨W7, hW7⟩ : ∃ W2, w6.alloc (.cells #[.int .i64 xsite, .int .i64 xseq, .slice ya xdep.length yc, .string xkey, .string xval] 33) = W2 := ⟨_, rfl⟩
  have hb : Below w6.heap.size w6 W7 := by rw [← hW7]; exact box_below w6 _
  have Xy : W7.heap[w6.heap.size]? = some (.cells #[.int .i64 xsite, .int .i64 xseq, .slice ya xdep.length yc, .string xkey, .string xval] 33 (0, 0)) := by rw [← hW7]; exact World.alloc_heap_new w6 _
  rw [hW7]
  replace Xr := keepB Xr hb
  replace Xx := keepB Xx hb
  replace hP := hP.below hb
  replace hx := hx.below hb
  replace hy := hy.below hb
  replace hB := hB.trans (hb.mono hB.size)
  clear hb
  clear hW7
  generalize w6.heap.size = py at *
  have rx := fun d os => (show IsRec (grow (redrawn W7 d) os) (.agg #[.int .i64 xsite, .int .i64 xseq, .slice xa xdep.length xc, .string xkey, .string xval]) ⟨xsite, xseq, xdep, xkey, xval⟩ from ⟨xa, xc, rfl, hx.below (below_regrown W7 d os)⟩)
  have ry := fun d os => (show IsRec (grow (redrawn W7 d) os) (.agg #[.int .i64 xsite, .int .i64 xseq, .slice ya xdep.length yc, .string xkey, .string xval]) ⟨xsite, xseq, xdep, xkey, xval⟩ from ⟨ya, yc, rfl, hy.below (below_regrown W7 d os)⟩)
  have q1 := hide (fun d os => Calls.regrown_of (recOfLaw_calls _ _ _ (rx d os)))
  have q2 := hide (fun d os => Calls.regrown_of (refSameRec_calls _ _ _ _ _ (rx d os) (ry d os) (by dsimp only; omega) (by dsimp only; omega)))
  rw [sameR_refl] at q2
  have kx0 := cell_regrown (cell_at Xx 0)
  have ky0 := cell_regrown (cell_at Xy 0)
  have kx1 := cell_regrown (cell_at Xx 1)
  have ky1 := cell_regrown (cell_at Xy 1)
  have kx2 := cell_regrown (cell_at Xx 2)
  have ky2 := cell_regrown (cell_at Xy 2)
  have kx3 := cell_regrown (cell_at Xx 3)
  have ky3 := cell_regrown (cell_at Xy 3)
  have kx4 := cell_regrown (cell_at Xx 4)
  have ky4 := cell_regrown (cell_at Xy 4)
  clear rx ry
  have ZXr := hide Xr
  have ZXx := hide Xx
  have ZXy := hide Xy
  have ZhP := hide hP
  have Zhx := hide hx
  have Zhy := hide hy
  have ZhB := hide hB
  clear Xr Xx Xy hP hx hy hB
  refine wp_region_quiet_below (by kernel_rfl) (by kernel_rfl) ?_
  first | go_big_quiet_step (fail) | quiet_step (fail)
  first | go_big_quiet_step (fail) | quiet_step (fail)
  first | go_big_quiet_step (fail) | quiet_step (fail)
  first | go_big_quiet_step (fail) | quiet_step (fail)
  first | go_big_quiet_step (fail) | quiet_step (fail)
  first | go_big_quiet_step (exact q1.out _ _) | quiet_step (exact q1.out _ _)
  first | go_big_quiet_step (fail) | quiet_step (fail)
  first | go_big_quiet_step (exact q2.out _ _) | quiet_step (exact q2.out _ _)
  first | go_big_quiet_step (fail) | quiet_step (fail)
  first | go_big_quiet_step (fail) | quiet_step (fail)
  first | go_big_quiet_step (fail) | quiet_step (fail)
  first | go_big_quiet_step (fail) | quiet_step (fail)
  first | go_big_quiet_step (fail) | quiet_step (fail)
  first | go_big_quiet_step (fail) | quiet_step (fail)
  first | go_big_quiet_step (fail) | quiet_step (fail)
  first | go_big_quiet_step (fail) | quiet_step (fail)
  first | go_big_quiet_step (fail) | quiet_step (fail)
  first | go_big_quiet_step (fail) | quiet_step (fail)
  first | go_big_quiet_step (fail) | quiet_step (fail)
  refine wpQuiet_nil ?_
  intro _ hw'
  obtain ⟨⟨dq, osq⟩, hw''⟩ := hw'
  subst hw''
  have hb := below_regrown W7 dq osq
  generalize grow (redrawn W7 dq) osq = w8 at *
  clear q1 q2 kx0 ky0 kx1 ky1 kx2 ky2 kx3 ky3 kx4 ky4
  have Xr := ZXr.out
  have Xx := ZXx.out
  have Xy := ZXy.out
  have hP := ZhP.out
  have hx := Zhx.out
  have hy := Zhy.out
  have hB := ZhB.out
  clear ZXr ZXx ZXy ZhP Zhx Zhy ZhB
  replace Xr := keepB Xr hb
  replace Xx := keepB Xx hb
  replace Xy := keepB Xy hb
  replace hP := hP.below hb
  replace hx := hx.below hb
  replace hy := hy.below hb
  replace hB := hB.trans (hb.mono hB.size)
  clear hb
  clear Xy hy
  by_cases hf : f = 0
  case neg =>
    have hf' : (f != 0) = true := by simp [hf]
    clear Xr Xx hx hP hfacts
    go_wp2_with fail
    go_ret
    exact ⟨rfl, hB⟩
  obtain ⟨b1, b2, b3, b4, b5, b6, b7, b8, b9⟩ := hfacts.out hf
  clear hfacts
  subst hf
  have b8 := hide b8
  have b9 := hide b9
  have b5 := hide b5
  have M0 := cell_at Xx 0
  have M1 := cell_at Xx 1
  have M2 := cell_at Xx 2
  have M3 := cell_at Xx 3
  have M4 := cell_at Xx 4
  simp only [List.getElem?_toArray, List.getElem?_cons_zero, List.getElem?_cons_succ] at M0 M1 M2 M3 M4
  have ZXr := hide Xr
  have ZXx := hide Xx
  have Zhx := hide hx
  have ZhP := hide hP
  have ZhB := hide hB
  clear Xr Xx hx hP hB
  go_wp2_with fail
  clear M0 M1 M2 M3 M4
  have Xr := ZXr.out
  have Xx := ZXx.out
  have hx := Zhx.out
  have hP := ZhP.out
  have hB := ZhB.out
  clear ZXr ZXx Zhx ZhP ZhB
  have u := recText_calls _ ⟨xsite, xseq, xdep, xkey, xval⟩ w8 (show IsRec w8 (.agg #[.int .i64 xsite, .int .i64 xseq, .slice xa xdep.length xc, .string xkey, .string xval]) ⟨xsite, xseq, xdep, xkey, xval⟩ from ⟨xa, xc, rfl, hx⟩) (by dsimp only; omega) (by dsimp only; omega) (by dsimp only; omega) (by dsimp only; omega) (by dsimp only; omega) b5.out (by dsimp only; omega) (by dsimp only; omega) hP
  rw [b8.out] at u
  refine u.mono ?_
  rintro e w9 ⟨rfl, hb⟩
  clear u
  replace Xr := keepB Xr hb
  replace Xx := keepB Xx hb
  replace hx := hx.below hb
  replace hP := hP.below hb
  replace hB := hB.trans (hb.mono hB.size)
  clear hb
  have M0 := cell_at Xx 0
  have M1 := cell_at Xx 1
  have M2 := cell_at Xx 2
  have M3 := cell_at Xx 3
  have M4 := cell_at Xx 4
  simp only [List.getElem?_toArray, List.getElem?_cons_zero, List.getElem?_cons_succ] at M0 M1 M2 M3 M4
  have N0 := cell_at Xr 0
  have N1 := cell_at Xr 1
  have N2 := cell_at Xr 2
  have N3 := cell_at Xr 3
  have N4 := cell_at Xr 4
  simp only [List.getElem?_toArray, List.getElem?_cons_zero, List.getElem?_cons_succ] at N0 N1 N2 N3 N4
  have ZXr := hide Xr
  have ZXx := hide Xx
  have Zhx := hide hx
  have ZhP := hide hP
  have ZhB := hide hB
  clear Xr Xx hx hP hB
  go_wp2_with fail
  clear M0 M1 M2 M3 M4
  clear N0 N1 N2 N3 N4
  have Xr := ZXr.out
  have Xx := ZXx.out
  have hx := Zhx.out
  have hP := ZhP.out
  have hB := ZhB.out
  clear ZXr ZXx Zhx ZhP ZhB
  have u := recSame_calls _ _ ⟨xsite, xseq, xdep, xkey, xval⟩ ⟨m, 1 + seq, [], ⟨#[107]⟩, ⟨#[118]⟩⟩ w9 (show IsRec w9 (.agg #[.int .i64 xsite, .int .i64 xseq, .slice xa xdep.length xc, .string xkey, .string xval]) ⟨xsite, xseq, xdep, xkey, xval⟩ from ⟨xa, xc, rfl, hx⟩) (show IsRec w9 (.agg #[.int .i64 m, .int .i64 (1 + seq), .slice none 0 0, .string ⟨#[107]⟩, .string ⟨#[118]⟩]) ⟨m, 1 + seq, [], ⟨#[107]⟩, ⟨#[118]⟩⟩ from ⟨none, 0, rfl, IsNums.nil _ _ _ _⟩) (by dsimp only; omega) (by simp)
  rw [b9.out] at u
  refine u.mono ?_
  rintro e w10 ⟨rfl, hb⟩
  clear u
  replace hB := hB.trans (hb.mono hB.size)
  clear hb Xr Xx hx hP
  go_wp2_with fail
  go_ret
  exact ⟨rfl, hB⟩
set_option maxRecDepth 100000 in
set_option maxHeartbeats 4000000 in
theorem recForms2 (site seq at_ how : Int) (w : World) (ws0 : 0 ≤ site) (ws1 : site ≤ 255) (hs0 : 0 ≤ seq) (hs1 : seq ≤ 65535) (h0 : 0 ≤ at_) (h1 : at_ ≤ 255) (h2 : 0 ≤ how) (h3 : how ≤ 255) (hh : Int.tmod how 3 = 2) (hp : Pow w) :
    Calls Tryd.prog 4 #[.int .u8 site, .int .u16 seq, .int .u8 at_, .int .u8 how] w fun e w' => e = .returned (.bool true) ∧ Below w.heap.size w w' := by
  obtain ⟨m, hm, hm0, hm1⟩ : ∃ m, Int.tmod site 8 = m ∧ 0 ≤ m ∧ m ≤ 7 := ⟨_, rfl, by rw [Int.tmod_eq_emod_of_nonneg ws0]; omega, by rw [Int.tmod_eq_emod_of_nonneg ws0]; omega⟩
  have hck := hide (forms_check hm0 hm1 hs0 hs1)
  obtain ⟨hz0, hz1⟩ := forms_size hm0 hm1 hs0 hs1
  go_enter Tryd.func4, Tryd.ntmps4
  go_wp2_with fail
  refine (recKnown_calls _ hp).mono ?_
  rintro e w1 ⟨rfl, hB⟩
  have hP := hp.below hB
  clear hp
  go_wp2_with fail
  obtain ⟨Wr, hWr⟩ : ∃ W2, w1.alloc (.cells #[.int .i64 m, .int .i64 (1 + seq), .slice none 0 0, .string ⟨#[107]⟩, .string ⟨#[118]⟩] 30) = W2 := ⟨_, rfl⟩
  have hb : Below w1.heap.size w1 Wr := by rw [← hWr]; exact box_below w1 _
  have Xr : Wr.heap[w1.heap.size]? = some (.cells #[.int .i64 m, .int .i64 (1 + seq), .slice none 0 0, .string ⟨#[107]⟩, .string ⟨#[118]⟩] 30 (0, 0)) := by rw [← hWr]; exact World.alloc_heap_new w1 _
  rw [hWr]
  replace hP := hP.below hb
  replace hB := hB.trans (hb.mono hB.size)
  clear hb hWr
  generalize w1.heap.size = pr at *
  have u := recText_calls _ ⟨m, 1 + seq, [], ⟨#[107]⟩, ⟨#[118]⟩⟩ Wr (show IsRec Wr (.agg #[.int .i64 m, .int .i64 (1 + seq), .slice none 0 0, .string ⟨#[107]⟩, .string ⟨#[118]⟩]) ⟨m, 1 + seq, [], ⟨#[107]⟩, ⟨#[118]⟩⟩ from ⟨none, 0, rfl, IsNums.nil _ _ _ _⟩) (by dsimp only; omega) (by dsimp only; omega) (by dsimp only; omega) (by dsimp only; omega) (by simp) (by simp [InR]) (by dsimp only; decide) (by dsimp only; decide) hP
  refine u.mono ?_
  rintro e w2 ⟨rfl, hb⟩
  clear u
  replace Xr := keepB Xr hb
  replace hP := hP.below hb
  replace hB := hB.trans (hb.mono hB.size)
  clear hb
  obtain ⟨tx, htx⟩ : ∃ tx, textR ⟨m, 1 + seq, [], ⟨#[107]⟩, ⟨#[118]⟩⟩ = tx := ⟨_, rfl⟩
  rw [htx] at hz0 hz1 ⊢
  have Htx := hide htx
  clear htx
  obtain ⟨i, hi, hil⟩ : ∃ i : Nat, Int.tmod at_ (tx.size : Int) = (i : Int) ∧ i < tx.size := by
    have := Int.emod_nonneg at_ (show (tx.size : Int) ≠ 0 by omega)
    have := Int.emod_lt_of_pos at_ (show 0 < (tx.size : Int) by omega)
    refine ⟨(at_ % (tx.size : Int)).toNat, ?_, ?_⟩
    · rw [Int.tmod_eq_emod_of_nonneg h0]; omega
    · omega
  have HXr := hide Xr
  have HhP := hide hP
  have HhB := hide hB
  clear Xr hP hB
  have hil' : (i : Int) ≤ (tx.size : Int) := by omega
  go_wp2_with fail
  (go_region)
  go_wp2_with fail
  obtain ⟨t, ht⟩ : ∃ t : ByteArray, tx.extract 0 i ++ tx.extract (i + 1) tx.size = t := ⟨_, rfl⟩
  have hts : t.size = tx.size - 1 := by rw [← ht]; exact less_size tx i hil
  rw [ht]
  obtain ⟨w3, hw3⟩ : ∃ w3, w2.drew = w3 := ⟨_, rfl⟩
  have hb : Below w2.heap.size w2 w3 := by rw [← hw3]; exact (Below.refl _ _).drew
  rw [hw3]
  clear hw3
  have Xr := keepB HXr.out hb
  have hP := HhP.out.below hb
  have hB := HhB.out.trans (hb.mono HhB.out.size)
  clear HXr HhP HhB hb
  have hff := trivial
  have hfacts := hide (fun h => forms_facts (t := t) (r := ⟨m, 1 + seq, [], ⟨#[107]⟩, ⟨#[118]⟩⟩) (by rw [Htx.out]; omega) (by omega) h)
  have hdl := parseR_dep t.data.toList
  have u := recParseB_calls t w3 (by omega)
  have u2 := fun w => refParseRec_calls t w (by omega)
  clear ht
  obtain ⟨⟨xr, f⟩, hp⟩ : ∃ p, parseR t.data.toList = p := ⟨_, rfl⟩
  simp only [hp] at u u2 hdl hfacts hff
  obtain ⟨xsite, xseq, xdep, xkey, xval⟩ := xr
  dsimp only at hdl
  clear hp
  have U2 := hide u2
  clear u2
  refine u.mono ?_
  rintro e w4 ⟨v, rfl, ⟨vd, rfl, hown⟩, hb⟩
  obtain ⟨xa, xc, rfl⟩ := ownsRow_slice hown
  have hx := IsNums.of_row hown
  clear u hown
  dsimp only at hx ⊢
  replace Xr := keepB Xr hb
  replace hP := hP.below hb
  replace hB := hB.trans (hb.mono hB.size)
  clear hb
  have ZXr := hide Xr
  have ZhP := hide hP
  have Zhx := hide hx
  have ZhB := hide hB
  clear Xr hP hx hB
  go_wp2_with fail
  have Xr := ZXr.out
  have hP := ZhP.out
  have hx := Zhx.out
  have hB := ZhB.out
  clear ZXr ZhP Zhx ZhB
  obtain ⟨W5, hW5⟩ : ∃ W2, w4.alloc (.cells #[.int .i64 xsite, .int .i64 xseq, .slice xa xdep.length xc, .string xkey, .string xval] 30) = W2 := ⟨_, rfl⟩
  have hb : Below w4.heap.size w4 W5 := by rw [← hW5]; exact box_below w4 _
  have Xx : W5.heap[w4.heap.size]? = some (.cells #[.int .i64 xsite, .int .i64 xseq, .slice xa xdep.length xc, .string xkey, .string xval] 30 (0, 0)) := by rw [← hW5]; exact World.alloc_heap_new w4 _
  rw [hW5]
  replace Xr := keepB Xr hb
  replace hP := hP.below hb
  replace hx := hx.below hb
  replace hB := hB.trans (hb.mono hB.size)
  clear hb
  clear hW5
  generalize w4.heap.size = px at *
  refine (U2.out W5).mono ?_
  rintro e w6 ⟨v, rfl, ⟨ya, yc, rfl, hy⟩, hb⟩
  clear U2
  dsimp only at hy ⊢
  replace Xr := keepB Xr hb
  replace Xx := keepB Xx hb
  replace hP := hP.below hb
  replace hx := hx.below hb
  replace hB := hB.trans (hb.mono hB.size)
  clear hb
  have ZXr := hide Xr
  have ZXx := hide Xx
  have ZhP := hide hP
  have Zhx := hide hx
  have Zhy := hide hy
  have ZhB := hide hB
  clear Xr Xx hP hx hy hB
  go_wp2_with fail
  have Xr := ZXr.out
  have Xx := ZXx.out
  have hP := ZhP.out
  have hx := Zhx.out
  have hy := Zhy.out
  have hB := ZhB.out
  clear ZXr ZXx ZhP Zhx Zhy ZhB
  obtain ⟨W7, hW7⟩ : ∃ W2, w6.alloc (.cells #[.int .i64 xsite, .int .i64 xseq, .slice ya xdep.length yc, .string xkey, .string xval] 33) = W2 := ⟨_, rfl⟩
  have hb : Below w6.heap.size w6 W7 := by rw [← hW7]; exact box_below w6 _
  have Xy : W7.heap[w6.heap.size]? = some (.cells #[.int .i64 xsite, .int .i64 xseq, .slice ya xdep.length yc, .string xkey, .string xval] 33 (0, 0)) := by rw [← hW7]; exact World.alloc_heap_new w6 _
  rw [hW7]
  replace Xr := keepB Xr hb
  replace Xx := keepB Xx hb
  replace hP := hP.below hb
  replace hx := hx.below hb
  replace hy := hy.below hb
  replace hB := hB.trans (hb.mono hB.size)
  clear hb
  clear hW7
  generalize w6.heap.size = py at *
  have rx := fun d os => (show IsRec (grow (redrawn W7 d) os) (.agg #[.int .i64 xsite, .int .i64 xseq, .slice xa xdep.length xc, .string xkey, .string xval]) ⟨xsite, xseq, xdep, xkey, xval⟩ from ⟨xa, xc, rfl, hx.below (below_regrown W7 d os)⟩)
  have ry := fun d os => (show IsRec (grow (redrawn W7 d) os) (.agg #[.int .i64 xsite, .int .i64 xseq, .slice ya xdep.length yc, .string xkey, .string xval]) ⟨xsite, xseq, xdep, xkey, xval⟩ from ⟨ya, yc, rfl, hy.below (below_regrown W7 d os)⟩)
  have q1 := hide (fun d os => Calls.regrown_of (recOfLaw_calls _ _ _ (rx d os)))
  have q2 := hide (fun d os => Calls.regrown_of (refSameRec_calls _ _ _ _ _ (rx d os) (ry d os) (by dsimp only; omega) (by dsimp only; omega)))
  rw [sameR_refl] at q2
  have kx0 := cell_regrown (cell_at Xx 0)
  have ky0 := cell_regrown (cell_at Xy 0)
  have kx1 := cell_regrown (cell_at Xx 1)
  have ky1 := cell_regrown (cell_at Xy 1)
  have kx2 := cell_regrown (cell_at Xx 2)
  have ky2 := cell_regrown (cell_at Xy 2)
  have kx3 := cell_regrown (cell_at Xx 3)
  have ky3 := cell_regrown (cell_at Xy 3)
  have kx4 := cell_regrown (cell_at Xx 4)
  have ky4 := cell_regrown (cell_at Xy 4)
  clear rx ry
  have ZXr := hide Xr
  have ZXx := hide Xx
  have ZXy := hide Xy
  have ZhP := hide hP
  have Zhx := hide hx
  have Zhy := hide hy
  have ZhB := hide hB
  clear Xr Xx Xy hP hx hy hB
  refine wp_region_quiet_below (by kernel_rfl) (by kernel_rfl) ?_
  first | go_big_quiet_step (fail) | quiet_step (fail)
  first | go_big_quiet_step (fail) | quiet_step (fail)
  first | go_big_quiet_step (fail) | quiet_step (fail)
  first | go_big_quiet_step (fail) | quiet_step (fail)
  first | go_big_quiet_step (fail) | quiet_step (fail)
  first | go_big_quiet_step (exact q1.out _ _) | quiet_step (exact q1.out _ _)
  first | go_big_quiet_step (fail) | quiet_step (fail)
  first | go_big_quiet_step (exact q2.out _ _) | quiet_step (exact q2.out _ _)
  first | go_big_quiet_step (fail) | quiet_step (fail)
  first | go_big_quiet_step (fail) | quiet_step (fail)
  first | go_big_quiet_step (fail) | quiet_step (fail)
  first | go_big_quiet_step (fail) | quiet_step (fail)
  first | go_big_quiet_step (fail) | quiet_step (fail)
  first | go_big_quiet_step (fail) | quiet_step (fail)
  first | go_big_quiet_step (fail) | quiet_step (fail)
  first | go_big_quiet_step (fail) | quiet_step (fail)
  first | go_big_quiet_step (fail) | quiet_step (fail)
  first | go_big_quiet_step (fail) | quiet_step (fail)
  first | go_big_quiet_step (fail) | quiet_step (fail)
  refine wpQuiet_nil ?_
  intro _ hw'
  obtain ⟨⟨dq, osq⟩, hw''⟩ := hw'
  subst hw''
  have hb := below_regrown W7 dq osq
  generalize grow (redrawn W7 dq) osq = w8 at *
  clear q1 q2 kx0 ky0 kx1 ky1 kx2 ky2 kx3 ky3 kx4 ky4
  have Xr := ZXr.out
  have Xx := ZXx.out
  have Xy := ZXy.out
  have hP := ZhP.out
  have hx := Zhx.out
  have hy := Zhy.out
  have hB := ZhB.out
  clear ZXr ZXx ZXy ZhP Zhx Zhy ZhB
  replace Xr := keepB Xr hb
  replace Xx := keepB Xx hb
  replace Xy := keepB Xy hb
  replace hP := hP.below hb
  replace hx := hx.below hb
  replace hy := hy.below hb
  replace hB := hB.trans (hb.mono hB.size)
  clear hb
  clear Xy hy
  by_cases hf : f = 0
  case neg =>
    have hf' : (f != 0) = true := by simp [hf]
    clear Xr Xx hx hP hfacts
    go_wp2_with fail
    go_ret
    exact ⟨rfl, hB⟩
  obtain ⟨b1, b2, b3, b4, b5, b6, b7, b8, b9⟩ := hfacts.out hf
  clear hfacts
  subst hf
  have b8 := hide b8
  have b9 := hide b9
  have b5 := hide b5
  have M0 := cell_at Xx 0
  have M1 := cell_at Xx 1
  have M2 := cell_at Xx 2
  have M3 := cell_at Xx 3
  have M4 := cell_at Xx 4
  simp only [List.getElem?_toArray, List.getElem?_cons_zero, List.getElem?_cons_succ] at M0 M1 M2 M3 M4
  have ZXr := hide Xr
  have ZXx := hide Xx
  have Zhx := hide hx
  have ZhP := hide hP
  have ZhB := hide hB
  clear Xr Xx hx hP hB
  go_wp2_with fail
  clear M0 M1 M2 M3 M4
  have Xr := ZXr.out
  have Xx := ZXx.out
  have hx := Zhx.out
  have hP := ZhP.out
  have hB := ZhB.out
  clear ZXr ZXx Zhx ZhP ZhB
  have u := recText_calls _ ⟨xsite, xseq, xdep, xkey, xval⟩ w8 (show IsRec w8 (.agg #[.int .i64 xsite, .int .i64 xseq, .slice xa xdep.length xc, .string xkey, .string xval]) ⟨xsite, xseq, xdep, xkey, xval⟩ from ⟨xa, xc, rfl, hx⟩) (by dsimp only; omega) (by dsimp only; omega) (by dsimp only; omega) (by dsimp only; omega) (by dsimp only; omega) b5.out (by dsimp only; omega) (by dsimp only; omega) hP
  rw [b8.out] at u
  refine u.mono ?_
  rintro e w9 ⟨rfl, hb⟩
  clear u
  replace Xr := keepB Xr hb
  replace Xx := keepB Xx hb
  replace hx := hx.below hb
  replace hP := hP.below hb
  replace hB := hB.trans (hb.mono hB.size)
  clear hb
  have M0 := cell_at Xx 0
  have M1 := cell_at Xx 1
  have M2 := cell_at Xx 2
  have M3 := cell_at Xx 3
  have M4 := cell_at Xx 4
  simp only [List.getElem?_toArray, List.getElem?_cons_zero, List.getElem?_cons_succ] at M0 M1 M2 M3 M4
  have N0 := cell_at Xr 0
  have N1 := cell_at Xr 1
  have N2 := cell_at Xr 2
  have N3 := cell_at Xr 3
  have N4 := cell_at Xr 4
  simp only [List.getElem?_toArray, List.getElem?_cons_zero, List.getElem?_cons_succ] at N0 N1 N2 N3 N4
  have ZXr := hide Xr
  have ZXx := hide Xx
  have Zhx := hide hx
  have ZhP := hide hP
  have ZhB := hide hB
  clear Xr Xx hx hP hB
  go_wp2_with fail
  clear M0 M1 M2 M3 M4
  clear N0 N1 N2 N3 N4
  have Xr := ZXr.out
  have Xx := ZXx.out
  have hx := Zhx.out
  have hP := ZhP.out
  have hB := ZhB.out
  clear ZXr ZXx Zhx ZhP ZhB
  have u := recSame_calls _ _ ⟨xsite, xseq, xdep, xkey, xval⟩ ⟨m, 1 + seq, [], ⟨#[107]⟩, ⟨#[118]⟩⟩ w9 (show IsRec w9 (.agg #[.int .i64 xsite, .int .i64 xseq, .slice xa xdep.length xc, .string xkey, .string xval]) ⟨xsite, xseq, xdep, xkey, xval⟩ from ⟨xa, xc, rfl, hx⟩) (show IsRec w9 (.agg #[.int .i64 m, .int .i64 (1 + seq), .slice none 0 0, .string ⟨#[107]⟩, .string ⟨#[118]⟩]) ⟨m, 1 + seq, [], ⟨#[107]⟩, ⟨#[118]⟩⟩ from ⟨none, 0, rfl, IsNums.nil _ _ _ _⟩) (by dsimp only; omega) (by simp)
  rw [b9.out] at u
  refine u.mono ?_
  rintro e w10 ⟨rfl, hb⟩
  clear u
  replace hB := hB.trans (hb.mono hB.size)
  clear hb Xr Xx hx hP
  go_wp2_with fail
  go_ret
  exact ⟨rfl, hB⟩

theorem recForms_main (site seq at_ how : Int) (w : World) (ws : (Lit.int .u8 site).wf = true) (wq : (Lit.int .u16 seq).wf = true) (wa : (Lit.int .u8 at_).wf = true) (wh : (Lit.int .u8 how).wf = true) (hp : Pow w) :
    Calls Tryd.prog 4 #[.int .u8 site, .int .u16 seq, .int .u8 at_, .int .u8 how] w fun e w' => e = .returned (.bool true) ∧ Below w.heap.size w w' := by
  obtain ⟨a1, a2⟩ := u8_range ws
  obtain ⟨b1, b2⟩ := u16_range wq
  obtain ⟨c1, c2⟩ := u8_range wa
  obtain ⟨d1, d2⟩ := u8_range wh
  have e : Int.tmod how 3 = 0 ∨ Int.tmod how 3 = 1 ∨ Int.tmod how 3 = 2 := by rw [Int.tmod_eq_emod_of_nonneg d1]; omega
  rcases e with e | e | e
  · exact recForms0 site seq at_ how w a1 a2 b1 b2 c1 c2 d1 d2 e hp
  · exact recForms1 site seq at_ how w a1 a2 b1 b2 c1 c2 d1 d2 e hp
  · exact recForms2 site seq at_ how w a1 a2 b1 b2 c1 c2 d1 d2 e hp

end Go.Proofs.YthpahkcncjieiaaDoor
