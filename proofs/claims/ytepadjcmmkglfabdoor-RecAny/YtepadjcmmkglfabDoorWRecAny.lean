/- The walk of RecAny. Own work; no statement. -/
import Derived.Test.YtepadjcmmkglfabDoorRefR
import Derived.Test.YtepadjcmmkglfabDoorRefS
import Derived.Test.YtepadjcmmkglfabDoorRefT
import Derived.Test.YtepadjcmmkglfabDoorRW
import Derived.Test.YtepadjcmmkglfabDoorFrameR
set_option linter.unusedSimpArgs false
set_option linter.unusedVariables false
namespace Go.Proofs.YtepadjcmmkglfabDoor
open Go.RowKit Go.Sort

theorem recParseB2_calls (s : ByteArray) (w : World) (hs : s.size ≤ 1099511627776) :
    Calls Tryd.prog 24 #[.string s] w fun e w' => ∃ v, e = .returned (.tuple #[v, .int .i64 (parseR s.data.toList).2]) ∧ OwnRec w.heap.size w' v (parseR s.data.toList).1 ∧ Below w.heap.size w w' := by
  have := recParse_calls s.data.toList w (by rw [← Lib.size_eq]; exact hs)
  simpa using this

theorem textR_size2 {r : RecD} (h0 : -9223372036854775808 ≤ r.site) (h1 : r.site ≤ 9223372036854775807) (g0 : -9223372036854775808 ≤ r.seq) (g1 : r.seq ≤ 9223372036854775807) (hr : InR r.dep) : (textR r).size ≤ 48 + 22 * r.dep.length + r.key.size + r.val.size := by
  have l1 := Lib.itoa_length_le r.site h0 h1
  have l2 := Lib.itoa_length_le r.seq g0 g1
  have l3 := textL_length hr
  rw [Lib.size_eq, textR_list, Lib.size_eq r.key, Lib.size_eq r.val]
  simp only [List.length_append, List.length_cons]
  omega

set_option maxRecDepth 100000 in
set_option maxHeartbeats 4000000 in
theorem recAny_main (va : Value) (r : RecD) (sites : Int) (w : World) (ha : IsRec w va r) (wa : RecWf r) (ws : (Lit.int .i64 sites).wf = true) (hp : Pow w) :
    Calls Tryd.prog 5 #[va, .int .i64 sites] w fun e w' => e = .returned (.bool true) ∧ Below w.heap.size w w' := by
  clear ws
  have b1 := wf_i64 wa.site
  have b2 := wf_i64 wa.seq
  have b3 : InR r.dep := fun x hx => wf_i64 (wa.dep x hx)
  have hsz := textR_size2 b1.1 b1.2 b2.1 b2.2 b3
  clear wa
  obtain ⟨fa, hfa⟩ : ∃ x, fewR r = x := ⟨_, rfl⟩
  obtain ⟨c, hc⟩ : ∃ x, checkR r sites = x := ⟨_, rfl⟩
  have hpt := hide (fun (h : c = 0) => parse_textR (hc.trans h))
  have hbs := hide (back_same r)
  have hbk := hide (show backR r = ⟨r.site, r.seq, r.dep.take (writtenL r.dep), r.key, r.val⟩ from rfl)
  obtain ⟨tx, htx⟩ : ∃ x, textR r = x := ⟨_, rfl⟩
  have Hfa := hide hfa
  have Hc := hide hc
  have Htx := hide htx
  rw [htx] at hpt hsz
  clear hfa hc htx
  obtain ⟨asite, aseq, adep, akey, aval⟩ := r
  obtain ⟨ap, acap, rfl, hna⟩ := ha
  dsimp only at hna b1 b2 b3 hsz hbk ⊢
  obtain ⟨b1, b1'⟩ := b1
  obtain ⟨b2, b2'⟩ := b2
  have B3 := hide b3
  clear b3
  obtain ⟨W0, hW0⟩ : ∃ W0, w.alloc (.cells #[.int .i64 asite, .int .i64 aseq, .slice ap adep.length acap, .string akey, .string aval] 40) = W0 := ⟨_, rfl⟩
  have hB : Below w.heap.size w W0 := by rw [← hW0]; exact box_below w _
  have Xa : W0.heap[w.heap.size]? = some (.cells #[.int .i64 asite, .int .i64 aseq, .slice ap adep.length acap, .string akey, .string aval] 40 (0, 0)) := by rw [← hW0]; exact World.alloc_heap_new w _
  replace hna := hna.below hB
  have hP := hp.below hB
  have HW := hide hW0
  clear hW0 hp
  go_enter Tryd.func5, Tryd.ntmps5
  go_wp2_with fail
  rw [HW.out]
  clear HW
  refine (recKnown_calls _ hP).mono ?_
  rintro e w1 ⟨rfl, hb⟩
  replace Xa := keepB Xa hb
  replace hna := hna.below hb
  replace hP := hP.below hb
  replace hB := hB.trans (hb.mono hB.size)
  clear hb
  have Ma0 := cell_at Xa 0
  have Ma1 := cell_at Xa 1
  have Ma2 := cell_at Xa 2
  have Ma3 := cell_at Xa 3
  have Ma4 := cell_at Xa 4
  simp only [List.getElem?_toArray, List.getElem?_cons_zero, List.getElem?_cons_succ] at Ma0 Ma1 Ma2 Ma3 Ma4
  have HXa := hide Xa
  have Hhna := hide hna
  have HhP := hide hP
  have HhB := hide hB
  clear Xa hna hP hB
  go_wp2_with fail
  clear Ma0 Ma1 Ma2 Ma3 Ma4
  have Xa := HXa.out
  have hna := Hhna.out
  have hP := HhP.out
  have hB := HhB.out
  clear HXa Hhna HhP HhB
  have u := recFew_calls _ _ w1 (show IsRec w1 (.agg #[.int .i64 asite, .int .i64 aseq, .slice ap adep.length acap, .string akey, .string aval]) ⟨asite, aseq, adep, akey, aval⟩ from ⟨ap, acap, rfl, hna⟩)
  rw [Hfa.out] at u
  refine u.mono ?_
  rintro e w2 ⟨rfl, hb⟩
  clear u
  replace Xa := keepB Xa hb
  replace hna := hna.below hb
  replace hP := hP.below hb
  replace hB := hB.trans (hb.mono hB.size)
  clear hb
  cases fa with
  | false =>
    clear Xa hna hP
    go_wp2_with fail
    go_ret
    exact ⟨rfl, hB⟩
  | true =>
    have hfew := Hfa.out
    simp only [fewR, decide_eq_true_eq] at hfew
    obtain ⟨l1, l2, l3⟩ := hfew
    clear Hfa
    have Ma0 := cell_at Xa 0
    have Ma1 := cell_at Xa 1
    have Ma2 := cell_at Xa 2
    have Ma3 := cell_at Xa 3
    have Ma4 := cell_at Xa 4
    simp only [List.getElem?_toArray, List.getElem?_cons_zero, List.getElem?_cons_succ] at Ma0 Ma1 Ma2 Ma3 Ma4
    have HXa := hide Xa
    have Hhna := hide hna
    have HhP := hide hP
    have HhB := hide hB
    clear Xa hna hP hB
    go_wp2_with fail
    clear Ma0 Ma1 Ma2 Ma3 Ma4
    have Xa := HXa.out
    have hna := Hhna.out
    have hP := HhP.out
    have hB := HhB.out
    clear HXa Hhna HhP HhB
    have u := recOfLaw_calls _ _ w2 (show IsRec w2 (.agg #[.int .i64 asite, .int .i64 aseq, .slice ap adep.length acap, .string akey, .string aval]) ⟨asite, aseq, adep, akey, aval⟩ from ⟨ap, acap, rfl, hna⟩)
    refine u.mono ?_
    rintro e w3 ⟨rfl, hb⟩
    clear u
    replace Xa := keepB Xa hb
    replace hna := hna.below hb
    replace hP := hP.below hb
    replace hB := hB.trans (hb.mono hB.size)
    clear hb
    have HXa := hide Xa
    have Hhna := hide hna
    have HhP := hide hP
    have HhB := hide hB
    clear Xa hna hP hB
    go_wp2_with fail
    have Xa := HXa.out
    have hna := Hhna.out
    have hP := HhP.out
    have hB := HhB.out
    clear HXa Hhna HhP HhB
    obtain ⟨W4, hW4⟩ : ∃ W2, w3.alloc (.cells #[.int .i64 asite, .int .i64 aseq, .slice ap adep.length acap, .string akey, .string aval] 43) = W2 := ⟨_, rfl⟩
    have hb : Below w3.heap.size w3 W4 := by rw [← hW4]; exact box_below w3 _
    have Xx : W4.heap[w3.heap.size]? = some (.cells #[.int .i64 asite, .int .i64 aseq, .slice ap adep.length acap, .string akey, .string aval] 43 (0, 0)) := by rw [← hW4]; exact World.alloc_heap_new w3 _
    rw [hW4]
    replace Xa := keepB Xa hb
    replace hna := hna.below hb
    replace hP := hP.below hb
    replace hB := hB.trans (hb.mono hB.size)
    clear hb
    clear hW4
    generalize w3.heap.size = px at *
    have u := refCheckRec_calls _ ⟨asite, aseq, adep, akey, aval⟩ sites W4 (show IsRec W4 (.agg #[.int .i64 asite, .int .i64 aseq, .slice ap adep.length acap, .string akey, .string aval]) ⟨asite, aseq, adep, akey, aval⟩ from ⟨ap, acap, rfl, hna⟩) (by dsimp only; omega) (by dsimp only; omega) (by dsimp only; omega)
    rw [Hc.out] at u
    refine u.mono ?_
    rintro e w5 ⟨rfl, hb⟩
    clear u
    replace Xa := keepB Xa hb
    replace Xx := keepB Xx hb
    replace hna := hna.below hb
    replace hP := hP.below hb
    replace hB := hB.trans (hb.mono hB.size)
    clear hb
    have ra := fun d os => (show IsRec (grow (redrawn w5 d) os) (.agg #[.int .i64 asite, .int .i64 aseq, .slice ap adep.length acap, .string akey, .string aval]) ⟨asite, aseq, adep, akey, aval⟩ from ⟨ap, acap, rfl, hna.below (below_regrown w5 d os)⟩)
    have q1 := hide (fun d os => Calls.regrown_of (recCheck_calls _ ⟨asite, aseq, adep, akey, aval⟩ sites _ (ra d os) (by dsimp only; omega) (by dsimp only; omega) (by dsimp only; omega)))
    have q2 := hide (fun d os => Calls.regrown_of (recText_calls _ ⟨asite, aseq, adep, akey, aval⟩ _ (ra d os) b1 b1' b2 b2' (by dsimp only; omega) B3.out (by dsimp only; omega) (by dsimp only; omega) (hP.below (below_regrown w5 d os))))
    have q3 := hide (fun d os => Calls.regrown_of (refRecText_calls _ ⟨asite, aseq, adep, akey, aval⟩ _ (ra d os) b1 b1' b2 b2' (by dsimp only; omega) B3.out (by dsimp only; omega) (by dsimp only; omega)))
    rw [Hc.out] at q1
    rw [Htx.out] at q2 q3
    have ka0 := cell_regrown (cell_at Xa 0)
    have ka1 := cell_regrown (cell_at Xa 1)
    have ka2 := cell_regrown (cell_at Xa 2)
    have ka3 := cell_regrown (cell_at Xa 3)
    have ka4 := cell_regrown (cell_at Xa 4)
    have kx0 := cell_regrown (cell_at Xx 0)
    have kx1 := cell_regrown (cell_at Xx 1)
    have kx2 := cell_regrown (cell_at Xx 2)
    have kx3 := cell_regrown (cell_at Xx 3)
    have kx4 := cell_regrown (cell_at Xx 4)
    have HXa := hide Xa
    have HXx := hide Xx
    have Hhna := hide hna
    have HhP := hide hP
    have HhB := hide hB
    clear ra Xa Xx hna hP hB
    go_wp2_with fail
    refine wp_region_quiet_below (by kernel_rfl) (by kernel_rfl) ?_
    first | go_big_quiet_step (fail) | quiet_step (fail)
    first | go_big_quiet_step (fail) | quiet_step (fail)
    first | go_big_quiet_step (exact q1.out _ _) | quiet_step (exact q1.out _ _)
    first | go_big_quiet_step (fail) | quiet_step (fail)
    first | go_big_quiet_step (fail) | quiet_step (fail)
    first | go_big_quiet_step (fail) | quiet_step (fail)
    first | go_big_quiet_step (fail) | quiet_step (fail)
    first | go_big_quiet_step (exact q2.out _ _) | quiet_step (exact q2.out _ _)
    first | go_big_quiet_step (fail) | quiet_step (fail)
    first | go_big_quiet_step (exact q3.out _ _) | quiet_step (exact q3.out _ _)
    first | go_big_quiet_step (fail) | quiet_step (fail)
    first | go_big_quiet_step (fail) | quiet_step (fail)
    refine wpQuiet_nil ?_
    intro _ hw'
    obtain ⟨⟨dq, osq⟩, hw''⟩ := hw'
    subst hw''
    have hb := below_regrown w5 dq osq
    generalize grow (redrawn w5 dq) osq = w6 at *
    have Xa := keepB HXa.out hb
    have Xx := keepB HXx.out hb
    have hna := Hhna.out.below hb
    have hP := HhP.out.below hb
    have hB := HhB.out.trans (hb.mono HhB.out.size)
    clear q1 q2 q3 HXa HXx Hhna HhP HhB hb ka0 kx0 ka1 kx1 ka2 kx2 ka3 kx3 ka4 kx4
    by_cases hc0 : c = 0
    case neg =>
      have hc' : (c != 0) = true := by simp [hc0]
      clear hc0 Xa Xx hna hP
      go_wp2_with fail
      go_ret
      exact ⟨rfl, hB⟩
    have hp0 := hpt.out hc0
    have Hp0 := hide hp0
    subst hc0
    clear hp0
    have Ma0 := cell_at Xa 0
    have Ma1 := cell_at Xa 1
    have Ma2 := cell_at Xa 2
    have Ma3 := cell_at Xa 3
    have Ma4 := cell_at Xa 4
    simp only [List.getElem?_toArray, List.getElem?_cons_zero, List.getElem?_cons_succ] at Ma0 Ma1 Ma2 Ma3 Ma4
    have HXa := hide Xa
    have HXx := hide Xx
    have Hhna := hide hna
    have HhP := hide hP
    have HhB := hide hB
    clear Xa Xx hna hP hB
    go_wp2_with fail
    clear Ma0 Ma1 Ma2 Ma3 Ma4
    have Xa := HXa.out
    have Xx := HXx.out
    have hna := Hhna.out
    have hP := HhP.out
    have hB := HhB.out
    clear HXa HXx Hhna HhP HhB
    have u := recText_calls _ ⟨asite, aseq, adep, akey, aval⟩ w6 (show IsRec w6 (.agg #[.int .i64 asite, .int .i64 aseq, .slice ap adep.length acap, .string akey, .string aval]) ⟨asite, aseq, adep, akey, aval⟩ from ⟨ap, acap, rfl, hna⟩) b1 b1' b2 b2' (by dsimp only; omega) B3.out (by dsimp only; omega) (by dsimp only; omega) hP
    rw [Htx.out] at u
    refine u.mono ?_
    rintro e w7 ⟨rfl, hb⟩
    clear u
    replace Xa := keepB Xa hb
    replace Xx := keepB Xx hb
    replace hna := hna.below hb
    replace hP := hP.below hb
    replace hB := hB.trans (hb.mono hB.size)
    clear hb
    have HXa := hide Xa
    have HXx := hide Xx
    have Hhna := hide hna
    have HhP := hide hP
    have HhB := hide hB
    clear Xa Xx hna hP hB
    go_wp2_with fail
    have Xa := HXa.out
    have Xx := HXx.out
    have hna := Hhna.out
    have hP := HhP.out
    have hB := HhB.out
    clear HXa HXx Hhna HhP HhB
    have u := recParseB2_calls tx w7 (by omega)
    rw [Hp0.out, hbk.out] at u
    have hbs2 := hbs.out
    rw [hbk.out] at hbs2
    obtain ⟨bd, hbd⟩ : ∃ bd, adep.take (writtenL adep) = bd := ⟨_, rfl⟩
    have hbl : bd.length ≤ 70 := by rw [← hbd, List.length_take]; omega
    rw [hbd] at u hbs2
    clear hbd
    refine u.mono ?_
    rintro e w8 ⟨v, rfl, ⟨vd, rfl, hown⟩, hb⟩
    obtain ⟨xa, xc, rfl⟩ := ownsRow_slice hown
    have hx := IsNums.of_row hown
    clear u hown
    replace Xa := keepB Xa hb
    replace Xx := keepB Xx hb
    replace hna := hna.below hb
    replace hP := hP.below hb
    replace hB := hB.trans (hb.mono hB.size)
    clear hb
    dsimp only at hx ⊢
    have Hbs2 := hide hbs2
    clear hbs2
    have HXa := hide Xa
    have HXx := hide Xx
    have Hhna := hide hna
    have Hhx := hide hx
    have HhP := hide hP
    have HhB := hide hB
    clear Xa Xx hna hx hP hB
    go_wp2_with fail
    have Xa := HXa.out
    have Xx := HXx.out
    have hna := Hhna.out
    have hx := Hhx.out
    have hP := HhP.out
    have hB := HhB.out
    clear HXa HXx Hhna Hhx HhP HhB
    obtain ⟨W9, hW9⟩ : ∃ W2, w8.alloc (.cells #[.int .i64 asite, .int .i64 aseq, .slice xa bd.length xc, .string akey, .string aval] 40) = W2 := ⟨_, rfl⟩
    have hb : Below w8.heap.size w8 W9 := by rw [← hW9]; exact box_below w8 _
    have Xs : W9.heap[w8.heap.size]? = some (.cells #[.int .i64 asite, .int .i64 aseq, .slice xa bd.length xc, .string akey, .string aval] 40 (0, 0)) := by rw [← hW9]; exact World.alloc_heap_new w8 _
    rw [hW9]
    replace Xx := keepB Xx hb
    replace hna := hna.below hb
    replace hx := hx.below hb
    replace hB := hB.trans (hb.mono hB.size)
    clear hW9 hb Xa hP
    generalize w8.heap.size = ps at *
    have ra := fun d os => (show IsRec (grow (redrawn W9 d) os) (.agg #[.int .i64 asite, .int .i64 aseq, .slice ap adep.length acap, .string akey, .string aval]) ⟨asite, aseq, adep, akey, aval⟩ from ⟨ap, acap, rfl, hna.below (below_regrown W9 d os)⟩)
    have rs := fun d os => (show IsRec (grow (redrawn W9 d) os) (.agg #[.int .i64 asite, .int .i64 aseq, .slice xa bd.length xc, .string akey, .string aval]) ⟨asite, aseq, bd, akey, aval⟩ from ⟨xa, xc, rfl, hx.below (below_regrown W9 d os)⟩)
    have q4 := hide (fun d os => Calls.regrown_of (recOfLaw_calls _ _ _ (rs d os)))
    have q5 := hide (fun d os => Calls.regrown_of (refSameRec_calls _ _ _ _ _ (rs d os) (ra d os) (by dsimp only; omega) (by dsimp only; omega)))
    rw [Hbs2.out] at q5
    have ks0 := cell_regrown (cell_at Xs 0)
    have ks1 := cell_regrown (cell_at Xs 1)
    have ks2 := cell_regrown (cell_at Xs 2)
    have ks3 := cell_regrown (cell_at Xs 3)
    have ks4 := cell_regrown (cell_at Xs 4)
    have kx0 := cell_regrown (cell_at Xx 0)
    have kx1 := cell_regrown (cell_at Xx 1)
    have kx2 := cell_regrown (cell_at Xx 2)
    have kx3 := cell_regrown (cell_at Xx 3)
    have kx4 := cell_regrown (cell_at Xx 4)
    have HB := hide hB
    clear ra rs Xs Xx hna hx hB
    refine wp_region_quiet_below (by kernel_rfl) (by kernel_rfl) ?_
    first | go_big_quiet_step (fail) | quiet_step (fail)
    first | go_big_quiet_step (fail) | quiet_step (fail)
    first | go_big_quiet_step (fail) | quiet_step (fail)
    first | go_big_quiet_step (fail) | quiet_step (fail)
    first | go_big_quiet_step (exact q4.out _ _) | quiet_step (exact q4.out _ _)
    first | go_big_quiet_step (fail) | quiet_step (fail)
    first | go_big_quiet_step (exact q5.out _ _) | quiet_step (exact q5.out _ _)
    first | go_big_quiet_step (fail) | quiet_step (fail)
    first | go_big_quiet_step (fail) | quiet_step (fail)
    refine wpQuiet_nil ?_
    intro _ hw'
    obtain ⟨⟨dq, osq⟩, hw''⟩ := hw'
    subst hw''
    go_wp2_with fail
    go_ret
    exact ⟨rfl, HB.out.trans ((below_regrown W9 dq osq).mono HB.out.size)⟩

end Go.Proofs.YtepadjcmmkglfabDoor
