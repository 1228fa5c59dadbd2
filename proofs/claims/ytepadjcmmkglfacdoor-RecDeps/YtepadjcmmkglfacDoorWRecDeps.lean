/- The walk of RecDeps. Own work; no statement. -/
import Derived.Test.YtepadjcmmkglfacDoorR12
import Derived.Test.YtepadjcmmkglfacDoorRW
set_option linter.unusedSimpArgs false
set_option linter.unusedVariables false
namespace Go.Proofs.YtepadjcmmkglfacDoor
open Go.RowKit Go.Sort

theorem recParseB_calls (s : ByteArray) (w : World) (hs : s.size ≤ 1099511627776) :
    Calls Tryd.prog 8 #[.string s] w fun e w' => ∃ v, e = .returned (.tuple #[v, .int .i64 (parseR s.data.toList).2]) ∧ OwnRec w.heap.size w' v (parseR s.data.toList).1 ∧ Below w.heap.size w w' := by
  have := recParse_calls s.data.toList w (by rw [← Lib.size_eq]; exact hs)
  simpa using this

theorem textR_size {r : RecD} (h0 : -9223372036854775808 ≤ r.site) (h1 : r.site ≤ 9223372036854775807) (g0 : -9223372036854775808 ≤ r.seq) (g1 : r.seq ≤ 9223372036854775807) (hr : InR r.dep) : (textR r).size ≤ 48 + 22 * r.dep.length + r.key.size + r.val.size := by
  have l1 := Lib.itoa_length_le r.site h0 h1
  have l2 := Lib.itoa_length_le r.seq g0 g1
  have l3 := textL_length hr
  rw [Lib.size_eq, textR_list, Lib.size_eq r.key, Lib.size_eq r.val]
  simp only [List.length_append, List.length_cons]
  omega

theorem inR_of_inS {l : List Int} (h : InS l) : InR l := fun x hx => by have := h x hx; omega

theorem deps0_inS {own other : Int} (h0 : 0 ≤ own) (h1 : own ≤ 65535) (h2 : 0 ≤ other) (h3 : other ≤ 65535) : InS [own, 0, 0, 0, other] := by
  intro x hx
  simp only [List.mem_cons, List.not_mem_nil, or_false] at hx
  omega
theorem deps0_check {seq own other : Int} (hs : 0 ≤ seq) (hs' : seq ≤ 65535) (h0 : 0 ≤ own) (h1 : own ≤ 65535) (h2 : 0 ≤ other) (h3 : other ≤ 65535) :
    checkR ⟨0, 1 + seq, [own, 0, 0, 0, other], ⟨#[107]⟩, ⟨#[]⟩⟩ 5 = (if 1 + seq ≤ own then 13 else 0) ∧ checkR ⟨0, 1 + seq, [own, 0, 0, 0, other], ⟨#[107]⟩, ⟨#[]⟩⟩ 4 = 4 := by
  have hk : isKeyL (⟨#[107]⟩ : ByteArray).data.toList = true := by decide +kernel
  have hv : checkValL (⟨#[]⟩ : ByteArray).data.toList = 0 := by decide +kernel
  have hc : checkL [own, 0, 0, 0, other] 5 = 0 := by
    unfold checkL
    rw [if_neg (by omega), if_neg (by simp)]
    simp only [checkN]
    repeat (rw [if_neg (by omega)])
  have hc4 : checkL [own, 0, 0, 0, other] 4 = 4 := by
    unfold checkL
    rw [if_neg (by omega), if_pos (by simp)]
  have hg : geti [own, 0, 0, 0, other] 0 = own := by unfold geti; simp
  constructor
  · unfold checkR
    dsimp only
    rw [if_neg (by omega), if_pos hc, hg, hk, hv]
    rfl
  · unfold checkR
    dsimp only
    rw [if_neg (by omega), if_neg (by rw [hc4]; decide), hc4]
theorem deps1_inS {own other : Int} (h0 : 0 ≤ own) (h1 : own ≤ 65535) (h2 : 0 ≤ other) (h3 : other ≤ 65535) : InS [0, own, 0, 0, other] := by
  intro x hx
  simp only [List.mem_cons, List.not_mem_nil, or_false] at hx
  omega
theorem deps1_check {seq own other : Int} (hs : 0 ≤ seq) (hs' : seq ≤ 65535) (h0 : 0 ≤ own) (h1 : own ≤ 65535) (h2 : 0 ≤ other) (h3 : other ≤ 65535) :
    checkR ⟨1, 1 + seq, [0, own, 0, 0, other], ⟨#[107]⟩, ⟨#[]⟩⟩ 5 = (if 1 + seq ≤ own then 13 else 0) ∧ checkR ⟨1, 1 + seq, [0, own, 0, 0, other], ⟨#[107]⟩, ⟨#[]⟩⟩ 4 = 4 := by
  have hk : isKeyL (⟨#[107]⟩ : ByteArray).data.toList = true := by decide +kernel
  have hv : checkValL (⟨#[]⟩ : ByteArray).data.toList = 0 := by decide +kernel
  have hc : checkL [0, own, 0, 0, other] 5 = 0 := by
    unfold checkL
    rw [if_neg (by omega), if_neg (by simp)]
    simp only [checkN]
    repeat (rw [if_neg (by omega)])
  have hc4 : checkL [0, own, 0, 0, other] 4 = 4 := by
    unfold checkL
    rw [if_neg (by omega), if_pos (by simp)]
  have hg : geti [0, own, 0, 0, other] 1 = own := by unfold geti; simp
  constructor
  · unfold checkR
    dsimp only
    rw [if_neg (by omega), if_pos hc, hg, hk, hv]
    rfl
  · unfold checkR
    dsimp only
    rw [if_neg (by omega), if_neg (by rw [hc4]; decide), hc4]
theorem deps2_inS {own other : Int} (h0 : 0 ≤ own) (h1 : own ≤ 65535) (h2 : 0 ≤ other) (h3 : other ≤ 65535) : InS [0, 0, own, 0, other] := by
  intro x hx
  simp only [List.mem_cons, List.not_mem_nil, or_false] at hx
  omega
theorem deps2_check {seq own other : Int} (hs : 0 ≤ seq) (hs' : seq ≤ 65535) (h0 : 0 ≤ own) (h1 : own ≤ 65535) (h2 : 0 ≤ other) (h3 : other ≤ 65535) :
    checkR ⟨2, 1 + seq, [0, 0, own, 0, other], ⟨#[107]⟩, ⟨#[]⟩⟩ 5 = (if 1 + seq ≤ own then 13 else 0) ∧ checkR ⟨2, 1 + seq, [0, 0, own, 0, other], ⟨#[107]⟩, ⟨#[]⟩⟩ 4 = 4 := by
  have hk : isKeyL (⟨#[107]⟩ : ByteArray).data.toList = true := by decide +kernel
  have hv : checkValL (⟨#[]⟩ : ByteArray).data.toList = 0 := by decide +kernel
  have hc : checkL [0, 0, own, 0, other] 5 = 0 := by
    unfold checkL
    rw [if_neg (by omega), if_neg (by simp)]
    simp only [checkN]
    repeat (rw [if_neg (by omega)])
  have hc4 : checkL [0, 0, own, 0, other] 4 = 4 := by
    unfold checkL
    rw [if_neg (by omega), if_pos (by simp)]
  have hg : geti [0, 0, own, 0, other] 2 = own := by unfold geti; simp
  constructor
  · unfold checkR
    dsimp only
    rw [if_neg (by omega), if_pos hc, hg, hk, hv]
    rfl
  · unfold checkR
    dsimp only
    rw [if_neg (by omega), if_neg (by rw [hc4]; decide), hc4]
theorem deps3_inS {own other : Int} (h0 : 0 ≤ own) (h1 : own ≤ 65535) (h2 : 0 ≤ other) (h3 : other ≤ 65535) : InS [0, 0, 0, own, other] := by
  intro x hx
  simp only [List.mem_cons, List.not_mem_nil, or_false] at hx
  omega
theorem deps3_check {seq own other : Int} (hs : 0 ≤ seq) (hs' : seq ≤ 65535) (h0 : 0 ≤ own) (h1 : own ≤ 65535) (h2 : 0 ≤ other) (h3 : other ≤ 65535) :
    checkR ⟨3, 1 + seq, [0, 0, 0, own, other], ⟨#[107]⟩, ⟨#[]⟩⟩ 5 = (if 1 + seq ≤ own then 13 else 0) ∧ checkR ⟨3, 1 + seq, [0, 0, 0, own, other], ⟨#[107]⟩, ⟨#[]⟩⟩ 4 = 4 := by
  have hk : isKeyL (⟨#[107]⟩ : ByteArray).data.toList = true := by decide +kernel
  have hv : checkValL (⟨#[]⟩ : ByteArray).data.toList = 0 := by decide +kernel
  have hc : checkL [0, 0, 0, own, other] 5 = 0 := by
    unfold checkL
    rw [if_neg (by omega), if_neg (by simp)]
    simp only [checkN]
    repeat (rw [if_neg (by omega)])
  have hc4 : checkL [0, 0, 0, own, other] 4 = 4 := by
    unfold checkL
    rw [if_neg (by omega), if_pos (by simp)]
  have hg : geti [0, 0, 0, own, other] 3 = own := by unfold geti; simp
  constructor
  · unfold checkR
    dsimp only
    rw [if_neg (by omega), if_pos hc, hg, hk, hv]
    rfl
  · unfold checkR
    dsimp only
    rw [if_neg (by omega), if_neg (by rw [hc4]; decide), hc4]

theorem u16_range {n : Int} (h : (Lit.int .u16 n).wf = true) : 0 ≤ n ∧ n ≤ 65535 := by
  have h' : (decide (IntKind.u16.min ≤ n) && decide (n ≤ IntKind.u16.max)) = true := h
  simp only [Bool.and_eq_true, decide_eq_true_eq] at h'
  exact h'
theorem u8_range {n : Int} (h : (Lit.int .u8 n).wf = true) : 0 ≤ n ∧ n ≤ 255 := by
  have h' : (decide (IntKind.u8.min ≤ n) && decide (n ≤ IntKind.u8.max)) = true := h
  simp only [Bool.and_eq_true, decide_eq_true_eq] at h'
  exact h'

set_option maxRecDepth 100000 in
set_option maxHeartbeats 8000000 in
theorem recDeps0 (site seq own other : Int) (w : World) (hm : Int.tmod site 4 = 0) (ws0 : 0 ≤ site) (ws1 : site ≤ 255) (hs0 : 0 ≤ seq) (hs1 : seq ≤ 65535) (h0 : 0 ≤ own) (h1 : own ≤ 65535) (h2 : 0 ≤ other) (h3 : other ≤ 65535) (hp : Pow w) :
    Calls Tryd.prog 3 #[.int .u8 site, .int .u16 seq, .int .u16 own, .int .u16 other] w fun e w' => e = .returned (.bool true) ∧ Below w.heap.size w w' := by
  obtain ⟨k5, k4⟩ := deps0_check (own := own) (other := other) hs0 hs1 h0 h1 h2 h3
  have hin := deps0_inS (own := own) (other := other) h0 h1 h2 h3
  have hmk : ∀ w, (Instr.makeSlice 24 (.int .i64 5) (.int .i64 5)).run Tryd.prog w = .ok (.slice (some ⟨w.heap.size, 0, none⟩) 5 5) (w.alloc (.cells #[.int .i64 0, .int .i64 0, .int .i64 0, .int .i64 0, .int .i64 0] 3)) := fun _ => by kernel_rfl
  have K5 := hide k5
  have K4 := hide k4
  have Hin := hide hin
  clear k5 k4 hin
  go_enter Tryd.func3, Tryd.ntmps3
  go_wp2_with fail
  refine (recKnown_calls _ hp).mono ?_
  rintro e w1 ⟨rfl, hB⟩
  have hP := hp.below hB
  clear hp
  go_wp2_with fail
  clear hmk
  obtain ⟨Wd, hWd⟩ : ∃ W2, w1.alloc (.cells #[.int .i64 own, .int .i64 0, .int .i64 0, .int .i64 0, .int .i64 other] 3) = W2 := ⟨_, rfl⟩
  have hbd : Below w1.heap.size w1 Wd := by rw [← hWd]; exact box_below w1 _
  have hds : Wd.heap.size = w1.heap.size + 1 := by rw [← hWd]; simp
  have hn : IsNums .i64 Wd (.slice (some ⟨w1.heap.size, 0, none⟩) 5 5) [own, 0, 0, 0, other] := by
    rw [← hWd]
    exact IsNums.of_row (base := 0) (World.ownsRow_lit (e := 3) (size := 1) w1 #[.int .i64 own, .int .i64 0, .int .i64 0, .int .i64 0, .int .i64 other] 5 (Nat.zero_le _) (by unfold maxLen; omega) rfl)
  rw [hWd, ← hds]
  replace hP := hP.below hbd
  replace hB := hB.trans (hbd.mono hB.size)
  clear hbd hds hWd
  generalize w1.heap.size = pd at *
  obtain ⟨Wr, hWr⟩ : ∃ W2, Wd.alloc (.cells #[.int .i64 0, .int .i64 (1 + seq), .slice (some ⟨pd, 0, none⟩) 5 5, .string ⟨#[107]⟩, .string ⟨#[]⟩] 27) = W2 := ⟨_, rfl⟩
  have hb : Below Wd.heap.size Wd Wr := by rw [← hWr]; exact box_below Wd _
  have Xr : Wr.heap[Wd.heap.size]? = some (.cells #[.int .i64 0, .int .i64 (1 + seq), .slice (some ⟨pd, 0, none⟩) 5 5, .string ⟨#[107]⟩, .string ⟨#[]⟩] 27 (0, 0)) := by rw [← hWr]; exact World.alloc_heap_new Wd _
  rw [hWr]
  replace hn := hn.below hb
  replace hP := hP.below hb
  replace hB := hB.trans (hb.mono hB.size)
  clear hb hWr
  generalize Wd.heap.size = pr at *
  have u := recCheck_calls _ ⟨0, 1 + seq, [own, 0, 0, 0, other], ⟨#[107]⟩, ⟨#[]⟩⟩ 5 Wr (show IsRec Wr (.agg #[.int .i64 0, .int .i64 (1 + seq), .slice (some ⟨pd, 0, none⟩) 5 5, .string ⟨#[107]⟩, .string ⟨#[]⟩]) ⟨0, 1 + seq, [own, 0, 0, 0, other], ⟨#[107]⟩, ⟨#[]⟩⟩ from ⟨some ⟨pd, 0, none⟩, 5, rfl, hn⟩) (by simp) (by dsimp only; decide) (by dsimp only; decide)
  by_cases hle : 1 + seq ≤ own
  · rw [K5.out, if_pos hle] at u
    refine u.mono ?_
    rintro e w2 ⟨rfl, hb⟩
    clear u
    replace hB := hB.trans (hb.mono hB.size)
    clear Xr hn hP hb
    go_wp2_with fail
    go_ret
    exact ⟨rfl, hB⟩
  · have k50 : checkR ⟨0, 1 + seq, [own, 0, 0, 0, other], ⟨#[107]⟩, ⟨#[]⟩⟩ 5 = 0 := by rw [K5.out, if_neg hle]
    rw [k50] at u
    refine u.mono ?_
    rintro e w2 ⟨rfl, hb⟩
    clear u
    replace Xr := keepB Xr hb
    replace hn := hn.below hb
    replace hP := hP.below hb
    replace hB := hB.trans (hb.mono hB.size)
    clear hb
    have M0 := cell_at Xr 0
    have M1 := cell_at Xr 1
    have M2 := cell_at Xr 2
    have M3 := cell_at Xr 3
    have M4 := cell_at Xr 4
    simp only [List.getElem?_toArray, List.getElem?_cons_zero, List.getElem?_cons_succ] at M0 M1 M2 M3 M4
    have HXr := hide Xr
    have Hhn := hide hn
    have HhB := hide hB
    have HhP := hide hP
    clear Xr hn hB hP
    go_wp2_with fail
    clear M0 M1 M2 M3 M4
    have Xr := HXr.out
    have hn := Hhn.out
    have hB := HhB.out
    have hP := HhP.out
    clear HXr Hhn HhB HhP
    have u := recText_calls _ ⟨0, 1 + seq, [own, 0, 0, 0, other], ⟨#[107]⟩, ⟨#[]⟩⟩ w2 (show IsRec w2 (.agg #[.int .i64 0, .int .i64 (1 + seq), .slice (some ⟨pd, 0, none⟩) 5 5, .string ⟨#[107]⟩, .string ⟨#[]⟩]) ⟨0, 1 + seq, [own, 0, 0, 0, other], ⟨#[107]⟩, ⟨#[]⟩⟩ from ⟨some ⟨pd, 0, none⟩, 5, rfl, hn⟩) (by dsimp only; decide) (by dsimp only; decide) (by dsimp only; omega) (by dsimp only; omega) (by simp) (inR_of_inS Hin.out) (by dsimp only; decide) (by dsimp only; decide) hP
    refine u.mono ?_
    rintro e w3 ⟨rfl, hb⟩
    clear u
    replace Xr := keepB Xr hb
    replace hn := hn.below hb
    replace hP := hP.below hb
    replace hB := hB.trans (hb.mono hB.size)
    clear hb
    have hsz := textR_size (r := ⟨0, 1 + seq, [own, 0, 0, 0, other], ⟨#[107]⟩, ⟨#[]⟩⟩) (by dsimp only; decide) (by dsimp only; decide) (by dsimp only; omega) (by dsimp only; omega) (inR_of_inS Hin.out)
    have u2 := recParseB_calls (textR ⟨0, 1 + seq, [own, 0, 0, 0, other], ⟨#[107]⟩, ⟨#[]⟩⟩) w3 (by refine Nat.le_trans hsz ?_; simp [ByteArray.size])
    rw [parse_textR k50] at u2
    have hbs := hide (back_same ⟨0, 1 + seq, [own, 0, 0, 0, other], ⟨#[107]⟩, ⟨#[]⟩⟩)
    have k50 := hide k50
    obtain ⟨bk, hbk⟩ : ∃ bk, backR ⟨0, 1 + seq, [own, 0, 0, 0, other], ⟨#[107]⟩, ⟨#[]⟩⟩ = bk := ⟨_, rfl⟩
    obtain ⟨bd, hbd2⟩ : ∃ bd, bk = ⟨0, 1 + seq, bd, ⟨#[107]⟩, ⟨#[]⟩⟩ ∧ bd.length ≤ 5 := ⟨([own, 0, 0, 0, other] : List Int).take (writtenL [own, 0, 0, 0, other]), by rw [← hbk]; rfl, by rw [List.length_take]; simp; omega⟩
    obtain ⟨rfl, hbl⟩ := hbd2
    rw [hbk] at u2 hbs
    clear hbk hsz
    generalize textR ⟨0, 1 + seq, [own, 0, 0, 0, other], ⟨#[107]⟩, ⟨#[]⟩⟩ = tx at *
    go_wp2_with fail
    refine u2.mono ?_
    rintro e w4 ⟨v, rfl, ⟨vd, rfl, hown⟩, hb⟩
    obtain ⟨xa, xc, rfl⟩ := ownsRow_slice hown
    have hx := IsNums.of_row hown
    clear u2 hown
    replace Xr := keepB Xr hb
    replace hn := hn.below hb
    replace hP := hP.below hb
    replace hB := hB.trans (hb.mono hB.size)
    clear hb
    dsimp only at hx ⊢
    have M0 := cell_at Xr 0
    have M1 := cell_at Xr 1
    have M2 := cell_at Xr 2
    have M3 := cell_at Xr 3
    have M4 := cell_at Xr 4
    simp only [List.getElem?_toArray, List.getElem?_cons_zero, List.getElem?_cons_succ] at M0 M1 M2 M3 M4
    have HXr := hide Xr
    have Hhn := hide hn
    have Hhx := hide hx
    have HhP := hide hP
    have HhB := hide hB
    have hlt := ltB Xr
    clear Xr hn hx hP hB
    go_wp2_with fail
    clear M0 M1 M2 M3 M4
    obtain ⟨Wx, hWx⟩ : ∃ W2, w4.alloc (.cells #[.int .i64 0, .int .i64 (1 + seq), .slice xa bd.length xc, .string ⟨#[107]⟩, .string ⟨#[]⟩] 27) = W2 := ⟨_, rfl⟩
    have hb : Below w4.heap.size w4 Wx := by rw [← hWx]; exact box_below w4 _
    rw [hWx]
    have Xr := keepB HXr.out hb
    have hn := Hhn.out.below hb
    have hx := Hhx.out.below hb
    have hP := HhP.out.below hb
    have hB := HhB.out.trans (hb.mono HhB.out.size)
    clear HXr Hhn Hhx HhP HhB hb hWx hlt
    have u := recSame_calls _ _ ⟨0, 1 + seq, bd, ⟨#[107]⟩, ⟨#[]⟩⟩ ⟨0, 1 + seq, [own, 0, 0, 0, other], ⟨#[107]⟩, ⟨#[]⟩⟩ Wx (show IsRec Wx (.agg #[.int .i64 0, .int .i64 (1 + seq), .slice xa bd.length xc, .string ⟨#[107]⟩, .string ⟨#[]⟩]) ⟨0, 1 + seq, bd, ⟨#[107]⟩, ⟨#[]⟩⟩ from ⟨xa, xc, rfl, hx⟩) (show IsRec Wx (.agg #[.int .i64 0, .int .i64 (1 + seq), .slice (some ⟨pd, 0, none⟩) 5 5, .string ⟨#[107]⟩, .string ⟨#[]⟩]) ⟨0, 1 + seq, [own, 0, 0, 0, other], ⟨#[107]⟩, ⟨#[]⟩⟩ from ⟨some ⟨pd, 0, none⟩, 5, rfl, hn⟩) (by dsimp only; omega) (by simp)
    rw [hbs.out] at u
    refine u.mono ?_
    rintro e w5 ⟨rfl, hb⟩
    clear u
    replace hx := hx.below hb
    replace Xr := keepB Xr hb
    replace hn := hn.below hb
    replace hP := hP.below hb
    replace hB := hB.trans (hb.mono hB.size)
    clear hb
    clear hx
    have M0 := cell_at Xr 0
    have M1 := cell_at Xr 1
    have M2 := cell_at Xr 2
    have M3 := cell_at Xr 3
    have M4 := cell_at Xr 4
    simp only [List.getElem?_toArray, List.getElem?_cons_zero, List.getElem?_cons_succ] at M0 M1 M2 M3 M4
    have HXr := hide Xr
    have Hhn := hide hn
    have HhB := hide hB
    have HhP := hide hP
    clear Xr hn hB hP
    go_wp2_with fail
    clear M0 M1 M2 M3 M4
    have Xr := HXr.out
    have hn := Hhn.out
    have hB := HhB.out
    have hP := HhP.out
    clear HXr Hhn HhB HhP
    have u := recCheck_calls _ ⟨0, 1 + seq, [own, 0, 0, 0, other], ⟨#[107]⟩, ⟨#[]⟩⟩ 4 w5 (show IsRec w5 (.agg #[.int .i64 0, .int .i64 (1 + seq), .slice (some ⟨pd, 0, none⟩) 5 5, .string ⟨#[107]⟩, .string ⟨#[]⟩]) ⟨0, 1 + seq, [own, 0, 0, 0, other], ⟨#[107]⟩, ⟨#[]⟩⟩ from ⟨some ⟨pd, 0, none⟩, 5, rfl, hn⟩) (by simp) (by dsimp only; decide) (by dsimp only; decide)
    rw [K4.out] at u
    refine u.mono ?_
    rintro e w6 ⟨rfl, hb⟩
    clear u
    replace hB := hB.trans (hb.mono hB.size)
    clear Xr hn hP hb
    go_wp2_with fail
    go_ret
    exact ⟨rfl, hB⟩

set_option maxRecDepth 100000 in
set_option maxHeartbeats 8000000 in
theorem recDeps1 (site seq own other : Int) (w : World) (hm : Int.tmod site 4 = 1) (ws0 : 0 ≤ site) (ws1 : site ≤ 255) (hs0 : 0 ≤ seq) (hs1 : seq ≤ 65535) (h0 : 0 ≤ own) (h1 : own ≤ 65535) (h2 : 0 ≤ other) (h3 : other ≤ 65535) (hp : Pow w) :
    Calls Tryd.prog 3 #[.int .u8 site, .int .u16 seq, .int .u16 own, .int .u16 other] w fun e w' => e = .returned (.bool true) ∧ Below w.heap.size w w' := by
  obtain ⟨k5, k4⟩ := deps1_check (own := own) (other := other) hs0 hs1 h0 h1 h2 h3
  have hin := deps1_inS (own := own) (other := other) h0 h1 h2 h3
  have hmk : ∀ w, (Instr.makeSlice 24 (.int .i64 5) (.int .i64 5)).run Tryd.prog w = .ok (.slice (some ⟨w.heap.size, 0, none⟩) 5 5) (w.alloc (.cells #[.int .i64 0, .int .i64 0, .int .i64 0, .int .i64 0, .int .i64 0] 3)) := fun _ => by kernel_rfl
  have K5 := hide k5
  have K4 := hide k4
  have Hin := hide hin
  clear k5 k4 hin
  go_enter Tryd.func3, Tryd.ntmps3
  go_wp2_with fail
  refine (recKnown_calls _ hp).mono ?_
  rintro e w1 ⟨rfl, hB⟩
  have hP := hp.below hB
  clear hp
  go_wp2_with fail
  clear hmk
  obtain ⟨Wd, hWd⟩ : ∃ W2, w1.alloc (.cells #[.int .i64 0, .int .i64 own, .int .i64 0, .int .i64 0, .int .i64 other] 3) = W2 := ⟨_, rfl⟩
  have hbd : Below w1.heap.size w1 Wd := by rw [← hWd]; exact box_below w1 _
  have hds : Wd.heap.size = w1.heap.size + 1 := by rw [← hWd]; simp
  have hn : IsNums .i64 Wd (.slice (some ⟨w1.heap.size, 0, none⟩) 5 5) [0, own, 0, 0, other] := by
    rw [← hWd]
    exact IsNums.of_row (base := 0) (World.ownsRow_lit (e := 3) (size := 1) w1 #[.int .i64 0, .int .i64 own, .int .i64 0, .int .i64 0, .int .i64 other] 5 (Nat.zero_le _) (by unfold maxLen; omega) rfl)
  rw [hWd, ← hds]
  replace hP := hP.below hbd
  replace hB := hB.trans (hbd.mono hB.size)
  clear hbd hds hWd
  generalize w1.heap.size = pd at *
  obtain ⟨Wr, hWr⟩ : ∃ W2, Wd.alloc (.cells #[.int .i64 1, .int .i64 (1 + seq), .slice (some ⟨pd, 0, none⟩) 5 5, .string ⟨#[107]⟩, .string ⟨#[]⟩] 27) = W2 := ⟨_, rfl⟩
  have hb : Below Wd.heap.size Wd Wr := by rw [← hWr]; exact box_below Wd _
  have Xr : Wr.heap[Wd.heap.size]? = some (.cells #[.int .i64 1, .int .i64 (1 + seq), .slice (some ⟨pd, 0, none⟩) 5 5, .string ⟨#[107]⟩, .string ⟨#[]⟩] 27 (0, 0)) := by rw [← hWr]; exact World.alloc_heap_new Wd _
  rw [hWr]
  replace hn := hn.below hb
  replace hP := hP.below hb
  replace hB := hB.trans (hb.mono hB.size)
  clear hb hWr
  generalize Wd.heap.size = pr at *
  have u := recCheck_calls _ ⟨1, 1 + seq, [0, own, 0, 0, other], ⟨#[107]⟩, ⟨#[]⟩⟩ 5 Wr (show IsRec Wr (.agg #[.int .i64 1, .int .i64 (1 + seq), .slice (some ⟨pd, 0, none⟩) 5 5, .string ⟨#[107]⟩, .string ⟨#[]⟩]) ⟨1, 1 + seq, [0, own, 0, 0, other], ⟨#[107]⟩, ⟨#[]⟩⟩ from ⟨some ⟨pd, 0, none⟩, 5, rfl, hn⟩) (by simp) (by dsimp only; decide) (by dsimp only; decide)
  by_cases hle : 1 + seq ≤ own
  · rw [K5.out, if_pos hle] at u
    refine u.mono ?_
    rintro e w2 ⟨rfl, hb⟩
    clear u
    replace hB := hB.trans (hb.mono hB.size)
    clear Xr hn hP hb
    go_wp2_with fail
    go_ret
    exact ⟨rfl, hB⟩
  · have k50 : checkR ⟨1, 1 + seq, [0, own, 0, 0, other], ⟨#[107]⟩, ⟨#[]⟩⟩ 5 = 0 := by rw [K5.out, if_neg hle]
    rw [k50] at u
    refine u.mono ?_
    rintro e w2 ⟨rfl, hb⟩
    clear u
    replace Xr := keepB Xr hb
    replace hn := hn.below hb
    replace hP := hP.below hb
    replace hB := hB.trans (hb.mono hB.size)
    clear hb
    have M0 := cell_at Xr 0
    have M1 := cell_at Xr 1
    have M2 := cell_at Xr 2
    have M3 := cell_at Xr 3
    have M4 := cell_at Xr 4
    simp only [List.getElem?_toArray, List.getElem?_cons_zero, List.getElem?_cons_succ] at M0 M1 M2 M3 M4
    have HXr := hide Xr
    have Hhn := hide hn
    have HhB := hide hB
    have HhP := hide hP
    clear Xr hn hB hP
    go_wp2_with fail
    clear M0 M1 M2 M3 M4
    have Xr := HXr.out
    have hn := Hhn.out
    have hB := HhB.out
    have hP := HhP.out
    clear HXr Hhn HhB HhP
    have u := recText_calls _ ⟨1, 1 + seq, [0, own, 0, 0, other], ⟨#[107]⟩, ⟨#[]⟩⟩ w2 (show IsRec w2 (.agg #[.int .i64 1, .int .i64 (1 + seq), .slice (some ⟨pd, 0, none⟩) 5 5, .string ⟨#[107]⟩, .string ⟨#[]⟩]) ⟨1, 1 + seq, [0, own, 0, 0, other], ⟨#[107]⟩, ⟨#[]⟩⟩ from ⟨some ⟨pd, 0, none⟩, 5, rfl, hn⟩) (by dsimp only; decide) (by dsimp only; decide) (by dsimp only; omega) (by dsimp only; omega) (by simp) (inR_of_inS Hin.out) (by dsimp only; decide) (by dsimp only; decide) hP
    refine u.mono ?_
    rintro e w3 ⟨rfl, hb⟩
    clear u
    replace Xr := keepB Xr hb
    replace hn := hn.below hb
    replace hP := hP.below hb
    replace hB := hB.trans (hb.mono hB.size)
    clear hb
    have hsz := textR_size (r := ⟨1, 1 + seq, [0, own, 0, 0, other], ⟨#[107]⟩, ⟨#[]⟩⟩) (by dsimp only; decide) (by dsimp only; decide) (by dsimp only; omega) (by dsimp only; omega) (inR_of_inS Hin.out)
    have u2 := recParseB_calls (textR ⟨1, 1 + seq, [0, own, 0, 0, other], ⟨#[107]⟩, ⟨#[]⟩⟩) w3 (by refine Nat.le_trans hsz ?_; simp [ByteArray.size])
    rw [parse_textR k50] at u2
    have hbs := hide (back_same ⟨1, 1 + seq, [0, own, 0, 0, other], ⟨#[107]⟩, ⟨#[]⟩⟩)
    have k50 := hide k50
    obtain ⟨bk, hbk⟩ : ∃ bk, backR ⟨1, 1 + seq, [0, own, 0, 0, other], ⟨#[107]⟩, ⟨#[]⟩⟩ = bk := ⟨_, rfl⟩
    obtain ⟨bd, hbd2⟩ : ∃ bd, bk = ⟨1, 1 + seq, bd, ⟨#[107]⟩, ⟨#[]⟩⟩ ∧ bd.length ≤ 5 := ⟨([0, own, 0, 0, other] : List Int).take (writtenL [0, own, 0, 0, other]), by rw [← hbk]; rfl, by rw [List.length_take]; simp; omega⟩
    obtain ⟨rfl, hbl⟩ := hbd2
    rw [hbk] at u2 hbs
    clear hbk hsz
    generalize textR ⟨1, 1 + seq, [0, own, 0, 0, other], ⟨#[107]⟩, ⟨#[]⟩⟩ = tx at *
    go_wp2_with fail
    refine u2.mono ?_
    rintro e w4 ⟨v, rfl, ⟨vd, rfl, hown⟩, hb⟩
    obtain ⟨xa, xc, rfl⟩ := ownsRow_slice hown
    have hx := IsNums.of_row hown
    clear u2 hown
    replace Xr := keepB Xr hb
    replace hn := hn.below hb
    replace hP := hP.below hb
    replace hB := hB.trans (hb.mono hB.size)
    clear hb
    dsimp only at hx ⊢
    have M0 := cell_at Xr 0
    have M1 := cell_at Xr 1
    have M2 := cell_at Xr 2
    have M3 := cell_at Xr 3
    have M4 := cell_at Xr 4
    simp only [List.getElem?_toArray, List.getElem?_cons_zero, List.getElem?_cons_succ] at M0 M1 M2 M3 M4
    have HXr := hide Xr
    have Hhn := hide hn
    have Hhx := hide hx
    have HhP := hide hP
    have HhB := hide hB
    have hlt := ltB Xr
    clear Xr hn hx hP hB
    go_wp2_with fail
    clear M0 M1 M2 M3 M4
    obtain ⟨Wx, hWx⟩ : ∃ W2, w4.alloc (.cells #[.int .i64 1, .int .i64 (1 + seq), .slice xa bd.length xc, .string ⟨#[107]⟩, .string ⟨#[]⟩] 27) = W2 := ⟨_, rfl⟩
    have hb : Below w4.heap.size w4 Wx := by rw [← hWx]; exact box_below w4 _
    rw [hWx]
    have Xr := keepB HXr.out hb
    have hn := Hhn.out.below hb
    have hx := Hhx.out.below hb
    have hP := HhP.out.below hb
    have hB := HhB.out.trans (hb.mono HhB.out.size)
    clear HXr Hhn Hhx HhP HhB hb hWx hlt
    have u := recSame_calls _ _ ⟨1, 1 + seq, bd, ⟨#[107]⟩, ⟨#[]⟩⟩ ⟨1, 1 + seq, [0, own, 0, 0, other], ⟨#[107]⟩, ⟨#[]⟩⟩ Wx (show IsRec Wx (.agg #[.int .i64 1, .int .i64 (1 + seq), .slice xa bd.length xc, .string ⟨#[107]⟩, .string ⟨#[]⟩]) ⟨1, 1 + seq, bd, ⟨#[107]⟩, ⟨#[]⟩⟩ from ⟨xa, xc, rfl, hx⟩) (show IsRec Wx (.agg #[.int .i64 1, .int .i64 (1 + seq), .slice (some ⟨pd, 0, none⟩) 5 5, .string ⟨#[107]⟩, .string ⟨#[]⟩]) ⟨1, 1 + seq, [0, own, 0, 0, other], ⟨#[107]⟩, ⟨#[]⟩⟩ from ⟨some ⟨pd, 0, none⟩, 5, rfl, hn⟩) (by dsimp only; omega) (by simp)
    rw [hbs.out] at u
    refine u.mono ?_
    rintro e w5 ⟨rfl, hb⟩
    clear u
    replace hx := hx.below hb
    replace Xr := keepB Xr hb
    replace hn := hn.below hb
    replace hP := hP.below hb
    replace hB := hB.trans (hb.mono hB.size)
    clear hb
    clear hx
    have M0 := cell_at Xr 0
    have M1 := cell_at Xr 1
    have M2 := cell_at Xr 2
    have M3 := cell_at Xr 3
    have M4 := cell_at Xr 4
    simp only [List.getElem?_toArray, List.getElem?_cons_zero, List.getElem?_cons_succ] at M0 M1 M2 M3 M4
    have HXr := hide Xr
    have Hhn := hide hn
    have HhB := hide hB
    have HhP := hide hP
    clear Xr hn hB hP
    go_wp2_with fail
    clear M0 M1 M2 M3 M4
    have Xr := HXr.out
    have hn := Hhn.out
    have hB := HhB.out
    have hP := HhP.out
    clear HXr Hhn HhB HhP
    have u := recCheck_calls _ ⟨1, 1 + seq, [0, own, 0, 0, other], ⟨#[107]⟩, ⟨#[]⟩⟩ 4 w5 (show IsRec w5 (.agg #[.int .i64 1, .int .i64 (1 + seq), .slice (some ⟨pd, 0, none⟩) 5 5, .string ⟨#[107]⟩, .string ⟨#[]⟩]) ⟨1, 1 + seq, [0, own, 0, 0, other], ⟨#[107]⟩, ⟨#[]⟩⟩ from ⟨some ⟨pd, 0, none⟩, 5, rfl, hn⟩) (by simp) (by dsimp only; decide) (by dsimp only; decide)
    rw [K4.out] at u
    refine u.mono ?_
    rintro e w6 ⟨rfl, hb⟩
    clear u
    replace hB := hB.trans (hb.mono hB.size)
    clear Xr hn hP hb
    go_wp2_with fail
    go_ret
    exact ⟨rfl, hB⟩

set_option maxRecDepth 100000 in
set_option maxHeartbeats 8000000 in
theorem recDeps2 (site seq own other : Int) (w : World) (hm : Int.tmod site 4 = 2) (ws0 : 0 ≤ site) (ws1 : site ≤ 255) (hs0 : 0 ≤ seq) (hs1 : seq ≤ 65535) (h0 : 0 ≤ own) (h1 : own ≤ 65535) (h2 : 0 ≤ other) (h3 : other ≤ 65535) (hp : Pow w) :
    Calls Tryd.prog 3 #[.int .u8 site, .int .u16 seq, .int .u16 own, .int .u16 other] w fun e w' => e = .returned (.bool true) ∧ Below w.heap.size w w' := by
  obtain ⟨k5, k4⟩ := deps2_check (own := own) (other := other) hs0 hs1 h0 h1 h2 h3
  have hin := deps2_inS (own := own) (other := other) h0 h1 h2 h3
  have hmk : ∀ w, (Instr.makeSlice 24 (.int .i64 5) (.int .i64 5)).run Tryd.prog w = .ok (.slice (some ⟨w.heap.size, 0, none⟩) 5 5) (w.alloc (.cells #[.int .i64 0, .int .i64 0, .int .i64 0, .int .i64 0, .int .i64 0] 3)) := fun _ => by kernel_rfl
  have K5 := hide k5
  have K4 := hide k4
  have Hin := hide hin
  clear k5 k4 hin
  go_enter Tryd.func3, Tryd.ntmps3
  go_wp2_with fail
  refine (recKnown_calls _ hp).mono ?_
  rintro e w1 ⟨rfl, hB⟩
  have hP := hp.below hB
  clear hp
  go_wp2_with fail
  clear hmk
  obtain ⟨Wd, hWd⟩ : ∃ W2, w1.alloc (.cells #[.int .i64 0, .int .i64 0, .int .i64 own, .int .i64 0, .int .i64 other] 3) = W2 := ⟨_, rfl⟩
  have hbd : Below w1.heap.size w1 Wd := by rw [← hWd]; exact box_below w1 _
  have hds : Wd.heap.size = w1.heap.size + 1 := by rw [← hWd]; simp
  have hn : IsNums .i64 Wd (.slice (some ⟨w1.heap.size, 0, none⟩) 5 5) [0, 0, own, 0, other] := by
    rw [← hWd]
    exact IsNums.of_row (base := 0) (World.ownsRow_lit (e := 3) (size := 1) w1 #[.int .i64 0, .int .i64 0, .int .i64 own, .int .i64 0, .int .i64 other] 5 (Nat.zero_le _) (by unfold maxLen; omega) rfl)
  rw [hWd, ← hds]
  replace hP := hP.below hbd
  replace hB := hB.trans (hbd.mono hB.size)
  clear hbd hds hWd
  generalize w1.heap.size = pd at *
  obtain ⟨Wr, hWr⟩ : ∃ W2, Wd.alloc (.cells #[.int .i64 2, .int .i64 (1 + seq), .slice (some ⟨pd, 0, none⟩) 5 5, .string ⟨#[107]⟩, .string ⟨#[]⟩] 27) = W2 := ⟨_, rfl⟩
  have hb : Below Wd.heap.size Wd Wr := by rw [← hWr]; exact box_below Wd _
  have Xr : Wr.heap[Wd.heap.size]? = some (.cells #[.int .i64 2, .int .i64 (1 + seq), .slice (some ⟨pd, 0, none⟩) 5 5, .string ⟨#[107]⟩, .string ⟨#[]⟩] 27 (0, 0)) := by rw [← hWr]; exact World.alloc_heap_new Wd _
  rw [hWr]
  replace hn := hn.below hb
  replace hP := hP.below hb
  replace hB := hB.trans (hb.mono hB.size)
  clear hb hWr
  generalize Wd.heap.size = pr at *
  have u := recCheck_calls _ ⟨2, 1 + seq, [0, 0, own, 0, other], ⟨#[107]⟩, ⟨#[]⟩⟩ 5 Wr (show IsRec Wr (.agg #[.int .i64 2, .int .i64 (1 + seq), .slice (some ⟨pd, 0, none⟩) 5 5, .string ⟨#[107]⟩, .string ⟨#[]⟩]) ⟨2, 1 + seq, [0, 0, own, 0, other], ⟨#[107]⟩, ⟨#[]⟩⟩ from ⟨some ⟨pd, 0, none⟩, 5, rfl, hn⟩) (by simp) (by dsimp only; decide) (by dsimp only; decide)
  by_cases hle : 1 + seq ≤ own
  · rw [K5.out, if_pos hle] at u
    refine u.mono ?_
    rintro e w2 ⟨rfl, hb⟩
    clear u
    replace hB := hB.trans (hb.mono hB.size)
    clear Xr hn hP hb
    go_wp2_with fail
    go_ret
    exact ⟨rfl, hB⟩
  · have k50 : checkR ⟨2, 1 + seq, [0, 0, own, 0, other], ⟨#[107]⟩, ⟨#[]⟩⟩ 5 = 0 := by rw [K5.out, if_neg hle]
    rw [k50] at u
    refine u.mono ?_
    rintro e w2 ⟨rfl, hb⟩
    clear u
    replace Xr := keepB Xr hb
    replace hn := hn.below hb
    replace hP := hP.below hb
    replace hB := hB.trans (hb.mono hB.size)
    clear hb
    have M0 := cell_at Xr 0
    have M1 := cell_at Xr 1
    have M2 := cell_at Xr 2
    have M3 := cell_at Xr 3
    have M4 := cell_at Xr 4
    simp only [List.getElem?_toArray, List.getElem?_cons_zero, List.getElem?_cons_succ] at M0 M1 M2 M3 M4
    have HXr := hide Xr
    have Hhn := hide hn
    have HhB := hide hB
    have HhP := hide hP
    clear Xr hn hB hP
    go_wp2_with fail
    clear M0 M1 M2 M3 M4
    have Xr := HXr.out
    have hn := Hhn.out
    have hB := HhB.out
    have hP := HhP.out
    clear HXr Hhn HhB HhP
    have u := recText_calls _ ⟨2, 1 + seq, [0, 0, own, 0, other], ⟨#[107]⟩, ⟨#[]⟩⟩ w2 (show IsRec w2 (.agg #[.int .i64 2, .int .i64 (1 + seq), .slice (some ⟨pd, 0, none⟩) 5 5, .string ⟨#[107]⟩, .string ⟨#[]⟩]) ⟨2, 1 + seq, [0, 0, own, 0, other], ⟨#[107]⟩, ⟨#[]⟩⟩ from ⟨some ⟨pd, 0, none⟩, 5, rfl, hn⟩) (by dsimp only; decide) (by dsimp only; decide) (by dsimp only; omega) (by dsimp only; omega) (by simp) (inR_of_inS Hin.out) (by dsimp only; decide) (by dsimp only; decide) hP
    refine u.mono ?_
    rintro e w3 ⟨rfl, hb⟩
    clear u
    replace Xr := keepB Xr hb
    replace hn := hn.below hb
    replace hP := hP.below hb
    replace hB := hB.trans (hb.mono hB.size)
    clear hb
    have hsz := textR_size (r := ⟨2, 1 + seq, [0, 0, own, 0, other], ⟨#[107]⟩, ⟨#[]⟩⟩) (by dsimp only; decide) (by dsimp only; decide) (by dsimp only; omega) (by dsimp only; omega) (inR_of_inS Hin.out)
    have u2 := recParseB_calls (textR ⟨2, 1 + seq, [0, 0, own, 0, other], ⟨#[107]⟩, ⟨#[]⟩⟩) w3 (by refine Nat.le_trans hsz ?_; simp [ByteArray.size])
    rw [parse_textR k50] at u2
    have hbs := hide (back_same ⟨2, 1 + seq, [0, 0, own, 0, other], ⟨#[107]⟩, ⟨#[]⟩⟩)
    have k50 := hide k50
    obtain ⟨bk, hbk⟩ : ∃ bk, backR ⟨2, 1 + seq, [0, 0, own, 0, other], ⟨#[107]⟩, ⟨#[]⟩⟩ = bk := ⟨_, rfl⟩
    obtain ⟨bd, hbd2⟩ : ∃ bd, bk = ⟨2, 1 + seq, bd, ⟨#[107]⟩, ⟨#[]⟩⟩ ∧ bd.length ≤ 5 := ⟨([0, 0, own, 0, other] : List Int).take (writtenL [0, 0, own, 0, other]), by rw [← hbk]; rfl, by rw [List.length_take]; simp; omega⟩
    obtain ⟨rfl, hbl⟩ := hbd2
    rw [hbk] at u2 hbs
    clear hbk hsz
    generalize textR ⟨2, 1 + seq, [0, 0, own, 0, other], ⟨#[107]⟩, ⟨#[]⟩⟩ = tx at *
    go_wp2_with fail
    refine u2.mono ?_
    rintro e w4 ⟨v, rfl, ⟨vd, rfl, hown⟩, hb⟩
    obtain ⟨xa, xc, rfl⟩ := ownsRow_slice hown
    have hx := IsNums.of_row hown
    clear u2 hown
    replace Xr := keepB Xr hb
    replace hn := hn.below hb
    replace hP := hP.below hb
    replace hB := hB.trans (hb.mono hB.size)
    clear hb
    dsimp only at hx ⊢
    have M0 := cell_at Xr 0
    have M1 := cell_at Xr 1
    have M2 := cell_at Xr 2
    have M3 := cell_at Xr 3
    have M4 := cell_at Xr 4
    simp only [List.getElem?_toArray, List.getElem?_cons_zero, List.getElem?_cons_succ] at M0 M1 M2 M3 M4
    have HXr := hide Xr
    have Hhn := hide hn
    have Hhx := hide hx
    have HhP := hide hP
    have HhB := hide hB
    have hlt := ltB Xr
    clear Xr hn hx hP hB
    go_wp2_with fail
    clear M0 M1 M2 M3 M4
    obtain ⟨Wx, hWx⟩ : ∃ W2, w4.alloc (.cells #[.int .i64 2, .int .i64 (1 + seq), .slice xa bd.length xc, .string ⟨#[107]⟩, .string ⟨#[]⟩] 27) = W2 := ⟨_, rfl⟩
    have hb : Below w4.heap.size w4 Wx := by rw [← hWx]; exact box_below w4 _
    rw [hWx]
    have Xr := keepB HXr.out hb
    have hn := Hhn.out.below hb
    have hx := Hhx.out.below hb
    have hP := HhP.out.below hb
    have hB := HhB.out.trans (hb.mono HhB.out.size)
    clear HXr Hhn Hhx HhP HhB hb hWx hlt
    have u := recSame_calls _ _ ⟨2, 1 + seq, bd, ⟨#[107]⟩, ⟨#[]⟩⟩ ⟨2, 1 + seq, [0, 0, own, 0, other], ⟨#[107]⟩, ⟨#[]⟩⟩ Wx (show IsRec Wx (.agg #[.int .i64 2, .int .i64 (1 + seq), .slice xa bd.length xc, .string ⟨#[107]⟩, .string ⟨#[]⟩]) ⟨2, 1 + seq, bd, ⟨#[107]⟩, ⟨#[]⟩⟩ from ⟨xa, xc, rfl, hx⟩) (show IsRec Wx (.agg #[.int .i64 2, .int .i64 (1 + seq), .slice (some ⟨pd, 0, none⟩) 5 5, .string ⟨#[107]⟩, .string ⟨#[]⟩]) ⟨2, 1 + seq, [0, 0, own, 0, other], ⟨#[107]⟩, ⟨#[]⟩⟩ from ⟨some ⟨pd, 0, none⟩, 5, rfl, hn⟩) (by dsimp only; omega) (by simp)
    rw [hbs.out] at u
    refine u.mono ?_
    rintro e w5 ⟨rfl, hb⟩
    clear u
    replace hx := hx.below hb
    replace Xr := keepB Xr hb
    replace hn := hn.below hb
    replace hP := hP.below hb
    replace hB := hB.trans (hb.mono hB.size)
    clear hb
    clear hx
    have M0 := cell_at Xr 0
    have M1 := cell_at Xr 1
    have M2 := cell_at Xr 2
    have M3 := cell_at Xr 3
    have M4 := cell_at Xr 4
    simp only [List.getElem?_toArray, List.getElem?_cons_zero, List.getElem?_cons_succ] at M0 M1 M2 M3 M4
    have HXr := hide Xr
    have Hhn := hide hn
    have HhB := hide hB
    have HhP := hide hP
    clear Xr hn hB hP
    go_wp2_with fail
    clear M0 M1 M2 M3 M4
    have Xr := HXr.out
    have hn := Hhn.out
    have hB := HhB.out
    have hP := HhP.out
    clear HXr Hhn HhB HhP
    have u := recCheck_calls _ ⟨2, 1 + seq, [0, 0, own, 0, other], ⟨#[107]⟩, ⟨#[]⟩⟩ 4 w5 (show IsRec w5 (.agg #[.int .i64 2, .int .i64 (1 + seq), .slice (some ⟨pd, 0, none⟩) 5 5, .string ⟨#[107]⟩, .string ⟨#[]⟩]) ⟨2, 1 + seq, [0, 0, own, 0, other], ⟨#[107]⟩, ⟨#[]⟩⟩ from ⟨some ⟨pd, 0, none⟩, 5, rfl, hn⟩) (by simp) (by dsimp only; decide) (by dsimp only; decide)
    rw [K4.out] at u
    refine u.mono ?_
    rintro e w6 ⟨rfl, hb⟩
    clear u
    replace hB := hB.trans (hb.mono hB.size)
    clear Xr hn hP hb
    go_wp2_with fail
    go_ret
    exact ⟨rfl, hB⟩

set_option maxRecDepth 100000 in
set_option maxHeartbeats 8000000 in
theorem recDeps3 (site seq own other : Int) (w : World) (hm : Int.tmod site 4 = 3) (ws0 : 0 ≤ site) (ws1 : site ≤ 255) (hs0 : 0 ≤ seq) (hs1 : seq ≤ 65535) (h0 : 0 ≤ own) (h1 : own ≤ 65535) (h2 : 0 ≤ other) (h3 : other ≤ 65535) (hp : Pow w) :
    Calls Tryd.prog 3 #[.int .u8 site, .int .u16 seq, .int .u16 own, .int .u16 other] w fun e w' => e = .returned (.bool true) ∧ Below w.heap.size w w' := by
  obtain ⟨k5, k4⟩ := deps3_check (own := own) (other := other) hs0 hs1 h0 h1 h2 h3
  have hin := deps3_inS (own := own) (other := other) h0 h1 h2 h3
  have hmk : ∀ w, (Instr.makeSlice 24 (.int .i64 5) (.int .i64 5)).run Tryd.prog w = .ok (.slice (some ⟨w.heap.size, 0, none⟩) 5 5) (w.alloc (.cells #[.int .i64 0, .int .i64 0, .int .i64 0, .int .i64 0, .int .i64 0] 3)) := fun _ => by kernel_rfl
  have K5 := hide k5
  have K4 := hide k4
  have Hin := hide hin
  clear k5 k4 hin
  go_enter Tryd.func3, Tryd.ntmps3
  go_wp2_with fail
  refine (recKnown_calls _ hp).mono ?_
  rintro e w1 ⟨rfl, hB⟩
  have hP := hp.below hB
  clear hp
  go_wp2_with fail
  clear hmk
  obtain ⟨Wd, hWd⟩ : ∃ W2, w1.alloc (.cells #[.int .i64 0, .int .i64 0, .int .i64 0, .int .i64 own, .int .i64 other] 3) = W2 := ⟨_, rfl⟩
  have hbd : Below w1.heap.size w1 Wd := by rw [← hWd]; exact box_below w1 _
  have hds : Wd.heap.size = w1.heap.size + 1 := by rw [← hWd]; simp
  have hn : IsNums .i64 Wd (.slice (some ⟨w1.heap.size, 0, none⟩) 5 5) [0, 0, 0, own, other] := by
    rw [← hWd]
    exact IsNums.of_row (base := 0) (World.ownsRow_lit (e := 3) (size := 1) w1 #[.int .i64 0, .int .i64 0, .int .i64 0, .int .i64 own, .int .i64 other] 5 (Nat.zero_le _) (by unfold maxLen; omega) rfl)
  rw [hWd, ← hds]
  replace hP := hP.below hbd
  replace hB := hB.trans (hbd.mono hB.size)
  clear hbd hds hWd
  generalize w1.heap.size = pd at *
  obtain ⟨Wr, hWr⟩ : ∃ W2, Wd.alloc (.cells #[.int .i64 3, .int .i64 (1 + seq), .slice (some ⟨pd, 0, none⟩) 5 5, .string ⟨#[107]⟩, .string ⟨#[]⟩] 27) = W2 := ⟨_, rfl⟩
  have hb : Below Wd.heap.size Wd Wr := by rw [← hWr]; exact box_below Wd _
  have Xr : Wr.heap[Wd.heap.size]? = some (.cells #[.int .i64 3, .int .i64 (1 + seq), .slice (some ⟨pd, 0, none⟩) 5 5, .string ⟨#[107]⟩, .string ⟨#[]⟩] 27 (0, 0)) := by rw [← hWr]; exact World.alloc_heap_new Wd _
  rw [hWr]
  replace hn := hn.below hb
  replace hP := hP.below hb
  replace hB := hB.trans (hb.mono hB.size)
  clear hb hWr
  generalize Wd.heap.size = pr at *
  have u := recCheck_calls _ ⟨3, 1 + seq, [0, 0, 0, own, other], ⟨#[107]⟩, ⟨#[]⟩⟩ 5 Wr (show IsRec Wr (.agg #[.int .i64 3, .int .i64 (1 + seq), .slice (some ⟨pd, 0, none⟩) 5 5, .string ⟨#[107]⟩, .string ⟨#[]⟩]) ⟨3, 1 + seq, [0, 0, 0, own, other], ⟨#[107]⟩, ⟨#[]⟩⟩ from ⟨some ⟨pd, 0, none⟩, 5, rfl, hn⟩) (by simp) (by dsimp only; decide) (by dsimp only; decide)
  by_cases hle : 1 + seq ≤ own
  · rw [K5.out, if_pos hle] at u
    refine u.mono ?_
    rintro e w2 ⟨rfl, hb⟩
    clear u
    replace hB := hB.trans (hb.mono hB.size)
    clear Xr hn hP hb
    go_wp2_with fail
    go_ret
    exact ⟨rfl, hB⟩
  · have k50 : checkR ⟨3, 1 + seq, [0, 0, 0, own, other], ⟨#[107]⟩, ⟨#[]⟩⟩ 5 = 0 := by rw [K5.out, if_neg hle]
    rw [k50] at u
    refine u.mono ?_
    rintro e w2 ⟨rfl, hb⟩
    clear u
    replace Xr := keepB Xr hb
    replace hn := hn.below hb
    replace hP := hP.below hb
    replace hB := hB.trans (hb.mono hB.size)
    clear hb
    have M0 := cell_at Xr 0
    have M1 := cell_at Xr 1
    have M2 := cell_at Xr 2
    have M3 := cell_at Xr 3
    have M4 := cell_at Xr 4
    simp only [List.getElem?_toArray, List.getElem?_cons_zero, List.getElem?_cons_succ] at M0 M1 M2 M3 M4
    have HXr := hide Xr
    have Hhn := hide hn
    have HhB := hide hB
    have HhP := hide hP
    clear Xr hn hB hP
    go_wp2_with fail
    clear M0 M1 M2 M3 M4
    have Xr := HXr.out
    have hn := Hhn.out
    have hB := HhB.out
    have hP := HhP.out
    clear HXr Hhn HhB HhP
    have u := recText_calls _ ⟨3, 1 + seq, [0, 0, 0, own, other], ⟨#[107]⟩, ⟨#[]⟩⟩ w2 (show IsRec w2 (.agg #[.int .i64 3, .int .i64 (1 + seq), .slice (some ⟨pd, 0, none⟩) 5 5, .string ⟨#[107]⟩, .string ⟨#[]⟩]) ⟨3, 1 + seq, [0, 0, 0, own, other], ⟨#[107]⟩, ⟨#[]⟩⟩ from ⟨some ⟨pd, 0, none⟩, 5, rfl, hn⟩) (by dsimp only; decide) (by dsimp only; decide) (by dsimp only; omega) (by dsimp only; omega) (by simp) (inR_of_inS Hin.out) (by dsimp only; decide) (by dsimp only; decide) hP
    refine u.mono ?_
    rintro e w3 ⟨rfl, hb⟩
    clear u
    replace Xr := keepB Xr hb
    replace hn := hn.below hb
    replace hP := hP.below hb
    replace hB := hB.trans (hb.mono hB.size)
    clear hb
    have hsz := textR_size (r := ⟨3, 1 + seq, [0, 0, 0, own, other], ⟨#[107]⟩, ⟨#[]⟩⟩) (by dsimp only; decide) (by dsimp only; decide) (by dsimp only; omega) (by dsimp only; omega) (inR_of_inS Hin.out)
    have u2 := recParseB_calls (textR ⟨3, 1 + seq, [0, 0, 0, own, other], ⟨#[107]⟩, ⟨#[]⟩⟩) w3 (by refine Nat.le_trans hsz ?_; simp [ByteArray.size])
    rw [parse_textR k50] at u2
    have hbs := hide (back_same ⟨3, 1 + seq, [0, 0, 0, own, other], ⟨#[107]⟩, ⟨#[]⟩⟩)
    have k50 := hide k50
    obtain ⟨bk, hbk⟩ : ∃ bk, backR ⟨3, 1 + seq, [0, 0, 0, own, other], ⟨#[107]⟩, ⟨#[]⟩⟩ = bk := ⟨_, rfl⟩
    obtain ⟨bd, hbd2⟩ : ∃ bd, bk = ⟨3, 1 + seq, bd, ⟨#[107]⟩, ⟨#[]⟩⟩ ∧ bd.length ≤ 5 := ⟨([0, 0, 0, own, other] : List Int).take (writtenL [0, 0, 0, own, other]), by rw [← hbk]; rfl, by rw [List.length_take]; simp; omega⟩
    obtain ⟨rfl, hbl⟩ := hbd2
    rw [hbk] at u2 hbs
    clear hbk hsz
    generalize textR ⟨3, 1 + seq, [0, 0, 0, own, other], ⟨#[107]⟩, ⟨#[]⟩⟩ = tx at *
    go_wp2_with fail
    refine u2.mono ?_
    rintro e w4 ⟨v, rfl, ⟨vd, rfl, hown⟩, hb⟩
    obtain ⟨xa, xc, rfl⟩ := ownsRow_slice hown
    have hx := IsNums.of_row hown
    clear u2 hown
    replace Xr := keepB Xr hb
    replace hn := hn.below hb
    replace hP := hP.below hb
    replace hB := hB.trans (hb.mono hB.size)
    clear hb
    dsimp only at hx ⊢
    have M0 := cell_at Xr 0
    have M1 := cell_at Xr 1
    have M2 := cell_at Xr 2
    have M3 := cell_at Xr 3
    have M4 := cell_at Xr 4
    simp only [List.getElem?_toArray, List.getElem?_cons_zero, List.getElem?_cons_succ] at M0 M1 M2 M3 M4
    have HXr := hide Xr
    have Hhn := hide hn
    have Hhx := hide hx
    have HhP := hide hP
    have HhB := hide hB
    have hlt := ltB Xr
    clear Xr hn hx hP hB
    go_wp2_with fail
    clear M0 M1 M2 M3 M4
    obtain ⟨Wx, hWx⟩ : ∃ W2, w4.alloc (.cells #[.int .i64 3, .int .i64 (1 + seq), .slice xa bd.length xc, .string ⟨#[107]⟩, .string ⟨#[]⟩] 27) = W2 := ⟨_, rfl⟩
    have hb : Below w4.heap.size w4 Wx := by rw [← hWx]; exact box_below w4 _
    rw [hWx]
    have Xr := keepB HXr.out hb
    have hn := Hhn.out.below hb
    have hx := Hhx.out.below hb
    have hP := HhP.out.below hb
    have hB := HhB.out.trans (hb.mono HhB.out.size)
    clear HXr Hhn Hhx HhP HhB hb hWx hlt
    have u := recSame_calls _ _ ⟨3, 1 + seq, bd, ⟨#[107]⟩, ⟨#[]⟩⟩ ⟨3, 1 + seq, [0, 0, 0, own, other], ⟨#[107]⟩, ⟨#[]⟩⟩ Wx (show IsRec Wx (.agg #[.int .i64 3, .int .i64 (1 + seq), .slice xa bd.length xc, .string ⟨#[107]⟩, .string ⟨#[]⟩]) ⟨3, 1 + seq, bd, ⟨#[107]⟩, ⟨#[]⟩⟩ from ⟨xa, xc, rfl, hx⟩) (show IsRec Wx (.agg #[.int .i64 3, .int .i64 (1 + seq), .slice (some ⟨pd, 0, none⟩) 5 5, .string ⟨#[107]⟩, .string ⟨#[]⟩]) ⟨3, 1 + seq, [0, 0, 0, own, other], ⟨#[107]⟩, ⟨#[]⟩⟩ from ⟨some ⟨pd, 0, none⟩, 5, rfl, hn⟩) (by dsimp only; omega) (by simp)
    rw [hbs.out] at u
    refine u.mono ?_
    rintro e w5 ⟨rfl, hb⟩
    clear u
    replace hx := hx.below hb
    replace Xr := keepB Xr hb
    replace hn := hn.below hb
    replace hP := hP.below hb
    replace hB := hB.trans (hb.mono hB.size)
    clear hb
    clear hx
    have M0 := cell_at Xr 0
    have M1 := cell_at Xr 1
    have M2 := cell_at Xr 2
    have M3 := cell_at Xr 3
    have M4 := cell_at Xr 4
    simp only [List.getElem?_toArray, List.getElem?_cons_zero, List.getElem?_cons_succ] at M0 M1 M2 M3 M4
    have HXr := hide Xr
    have Hhn := hide hn
    have HhB := hide hB
    have HhP := hide hP
    clear Xr hn hB hP
    go_wp2_with fail
    clear M0 M1 M2 M3 M4
    have Xr := HXr.out
    have hn := Hhn.out
    have hB := HhB.out
    have hP := HhP.out
    clear HXr Hhn HhB HhP
    have u := recCheck_calls _ ⟨3, 1 + seq, [0, 0, 0, own, other], ⟨#[107]⟩, ⟨#[]⟩⟩ 4 w5 (show IsRec w5 (.agg #[.int .i64 3, .int .i64 (1 + seq), .slice (some ⟨pd, 0, none⟩) 5 5, .string ⟨#[107]⟩, .string ⟨#[]⟩]) ⟨3, 1 + seq, [0, 0, 0, own, other], ⟨#[107]⟩, ⟨#[]⟩⟩ from ⟨some ⟨pd, 0, none⟩, 5, rfl, hn⟩) (by simp) (by dsimp only; decide) (by dsimp only; decide)
    rw [K4.out] at u
    refine u.mono ?_
    rintro e w6 ⟨rfl, hb⟩
    clear u
    replace hB := hB.trans (hb.mono hB.size)
    clear Xr hn hP hb
    go_wp2_with fail
    go_ret
    exact ⟨rfl, hB⟩

theorem recDeps_main (site seq own other : Int) (w : World) (ws : (Lit.int .u8 site).wf = true) (wq : (Lit.int .u16 seq).wf = true) (wo : (Lit.int .u16 own).wf = true) (wt : (Lit.int .u16 other).wf = true) (hp : Pow w) :
    Calls Tryd.prog 3 #[.int .u8 site, .int .u16 seq, .int .u16 own, .int .u16 other] w fun e w' => e = .returned (.bool true) ∧ Below w.heap.size w w' := by
  have hs := u8_range ws
  have hq := u16_range wq
  have ho := u16_range wo
  have ht := u16_range wt
  have hm : Int.tmod site 4 = 0 ∨ Int.tmod site 4 = 1 ∨ Int.tmod site 4 = 2 ∨ Int.tmod site 4 = 3 := by rw [Int.tmod_eq_emod_of_nonneg hs.1]; omega
  rcases hm with hm | hm | hm | hm
  · exact recDeps0 site seq own other w hm hs.1 hs.2 hq.1 hq.2 ho.1 ho.2 ht.1 ht.2 hp
  · exact recDeps1 site seq own other w hm hs.1 hs.2 hq.1 hq.2 ho.1 ho.2 ht.1 ht.2 hp
  · exact recDeps2 site seq own other w hm hs.1 hs.2 hq.1 hq.2 ho.1 ho.2 ht.1 ht.2 hp
  · exact recDeps3 site seq own other w hm hs.1 hs.2 hq.1 hq.2 ho.1 ho.2 ht.1 ht.2 hp

end Go.Proofs.YtepadjcmmkglfacDoor
