/- Own work: the parts TK11 of the proof, laid together. -/
import Derived.Test.YtdkpbfigjdmfpaaPartTokenChain9
import Derived.Test.YtdkpbfigjdmfpaaPartTokenChain10
import Derived.Deep.Cut
import Derived.Deep.DeepCutAuto
/- The laws' known of layer 9 (its regions' steps are written by tools/known9.py). Own work; no statement. -/
set_option linter.unusedSimpArgs false
set_option linter.unusedVariables false
namespace Go.Proofs.Ytdkpbfigjdmfpaa
open Go.RowKit Go.Shelf Go.Sort

def k1t : TokD := ⟨0, 5, [], []⟩
def k1m : List DrD := [dD 1 2 [], dD 0 0 [0, 2]]
def k2t : TokD := (admitT k1t k1m).1
def k2m : List DrD := [dD 1 1 [], dD 1 2 [], dD 1 1 []]
def k3t : TokD := (admitT k2t k2m).1
theorem k1_none : (admitT k1t k1m).2.length = 0 := by decide +kernel
theorem k2_late : k2t.late.length = 2 := by decide +kernel
theorem k2_three : (admitT k2t k2m).2.length = 3 := by decide +kernel
theorem k3_own : k3t.own = 0 := by decide +kernel
theorem k3_next : k3t.next = 8 := by decide +kernel
theorem k3_seen : k3t.seen = [1, 2] := by decide +kernel
theorem k3_late : k3t.late.length = 0 := by decide +kernel
theorem k3_list : (admitT k2t k2m).2.map (fun x => (x.1, x.2.ticket, x.2.r.site, x.2.r.seq)) = [(5, 0, 1, 1), (6, 0, 1, 2), (7, 1, 0, 1)] := by decide +kernel
theorem k3_may : mayD k3t.own k3t.seen (dD 1 3 []) = true := by rw [k3_own, k3_seen]; decide +kernel
theorem k3_not : mayD k3t.own k3t.seen (dD 1 4 []) = false := by rw [k3_own, k3_seen]; decide +kernel
theorem k3_check : checkT k3t = 0 := by unfold checkT; rw [k3_own, k3_next, k3_seen]; decide +kernel
theorem three_of {α β : Type} {f : α → β} {l : List α} {x y z : β} (h : l.map f = [x, y, z]) : ∃ a b c, l = [a, b, c] ∧ f a = x ∧ f b = y ∧ f c = z := by
  match l, h with
  | [a, b, c], h =>
    simp only [List.map_cons, List.map_nil, List.cons.injEq, and_true] at h
    exact ⟨a, b, c, rfl, h.1, h.2.1, h.2.2⟩
theorem nums_lit {w : World} {b : Nat} {c : Array Value} {e : TypeId} {f : Nat × Nat} {l : List Int} (h : w.heap[b]? = some (.cells c e f)) (hc : c.toList = l.map (Value.int .i64)) : IsNums .i64 w (.slice (some ⟨b, 0, none⟩) l.length l.length) l := by
  refine ⟨_, _, rfl, Nat.le_refl _, fun t ht => ⟨b, 0, rfl, ?_⟩⟩
  rw [cellsAt h, Nat.zero_add, ← Array.getElem?_toList, hc]
  simp [List.getD, ht]
theorem k1_tok (w : World) : IsTok w (.agg #[.int .i64 0, .int .i64 5, .slice none 0 0, .slice none 0 0]) k1t := ⟨none, 0, none, 0, rfl, IsNums.nil _ _ _ _, IsDrs.nil _⟩
theorem dD_ok {site seq : Int} {dep : List Int} (h1 : 0 ≤ site ∧ site ≤ 7) (h2 : 0 ≤ seq ∧ seq ≤ 1048576) (h3 : dep.length ≤ 1048576) : DrOk (dD site seq dep) := ⟨h1, h2, h3⟩
theorem seenOk_nil : SeenOk [] := ⟨by simp, fun j => by unfold geti; simp⟩
theorem k1_wf : TokWf k1t 0 5 := ⟨seenOk_nil, fun d h => (by cases h), Nat.le_refl _, by decide⟩
theorem k1m_ok : ∀ d ∈ k1m, DrOk d := by
  intro d hd
  simp only [k1m, List.mem_cons, List.not_mem_nil, or_false] at hd
  rcases hd with rfl | rfl
  · exact dD_ok (by decide) (by decide) (by simp)
  · exact dD_ok (by decide) (by decide) (by simp)
theorem k2m_ok : ∀ d ∈ k2m, DrOk d := by
  intro d hd
  simp only [k2m, List.mem_cons, List.not_mem_nil, or_false] at hd
  rcases hd with rfl | rfl | rfl
  · exact dD_ok (by decide) (by decide) (by simp)
  · exact dD_ok (by decide) (by decide) (by simp)
  · exact dD_ok (by decide) (by decide) (by simp)
theorem k2_wf : TokWf k2t 2 7 := k1_wf.goesOn k1m k1m_ok
/-- Admit on a token whose bounds are known. -/
theorem admit_wf (vt vl : Value) (t : TokD) (m : List DrD) (w : World) (ht : IsTok w vt t) (hl : IsDrs w vl m) {N : Nat} {C : Int} (hwf : TokWf t N C) (hm : ∀ d ∈ m, DrOk d) (hN : N + m.length ≤ 1048576) (hC : C ≤ 1099511627776) :
    Calls Try.prog 17 #[vt, vl] w fun e w' => ∃ vt' vs, e = .returned (.tuple #[vt', vs]) ∧ TokS (fun k => w.heap.size ≤ k) w' vt' (admitT t m).1 ∧ SlsS (fun k => w.heap.size ≤ k) w' vs (admitT t m).2 ∧ RowKit.Below w.heap.size w w' :=
  admit_calls vt vl t m w ht hl hwf.seen (fun d hd => (List.mem_append.1 hd).elim (hwf.late d) (hm d)) (by have := hwf.len; omega) ⟨hwf.next.1, by have := hwf.next.2; omega⟩

set_option maxHeartbeats 8000000 in
set_option maxRecDepth 100000 in
theorem tokKnown_calls (w : World) : Calls Try.prog 8 #[] w fun e w' => e = .returned (.bool true) ∧ RowKit.Below w.heap.size w w' := by
  obtain ⟨W0, hW0, hsz, hB0, h0⟩ := new1T w #[.int .i64 0, .int .i64 5, .slice none 0 0, .slice none 0 0] 26
  have CD1 : ∀ (site seq tk : Int), (if seq = 0 then 1 else 0) = tk → ∀ V : World, Calls Try.prog 26 #[.int .i64 site, .int .i64 seq, .slice none 0 0] V fun e w' => e = .returned (.agg #[.int .i64 tk, .int .i64 site, .int .i64 seq, .slice none 0 0, .string ⟨#[107]⟩, .string ⟨#[]⟩]) ∧ w' = V.alloc (.cells #[.int .i64 tk, .int .i64 site, .int .i64 seq, .slice none 0 0, .string ⟨#[107]⟩, .string ⟨#[]⟩] 41) := fun site seq tk h V => by
    subst h
    exact lawD_calls site seq (.slice none 0 0) [] V (IsNums.of_row (World.ownsRow_nil _ 0 3 1))
  have CD2 : ∀ (b : Nat) (V : World), IsNums .i64 V (.slice (some ⟨b, 0, none⟩) 2 2) [0, 2] → Calls Try.prog 26 #[.int .i64 0, .int .i64 0, .slice (some ⟨b, 0, none⟩) 2 2] V fun e w' => e = .returned (.agg #[.int .i64 1, .int .i64 0, .int .i64 0, .slice (some ⟨b, 0, none⟩) 2 2, .string ⟨#[107]⟩, .string ⟨#[]⟩]) ∧ w' = V.alloc (.cells #[.int .i64 1, .int .i64 0, .int .i64 0, .slice (some ⟨b, 0, none⟩) 2 2, .string ⟨#[107]⟩, .string ⟨#[]⟩] 41) := fun b V h => lawD_calls 0 0 _ [0, 2] V h
  have CA1 : ∀ (V : World) (vt vl : Value), IsTok V vt k1t → IsDrs V vl k1m → Calls Try.prog 17 #[vt, vl] V fun e w' => ∃ vt' vs, e = .returned (.tuple #[vt', vs]) ∧ TokS (fun k => V.heap.size ≤ k) w' vt' k2t ∧ SlsS (fun k => V.heap.size ≤ k) w' vs (admitT k1t k1m).2 ∧ RowKit.Below V.heap.size V w' := fun V vt vl h1 h2 => admit_wf vt vl k1t k1m V h1 h2 k1_wf k1m_ok (by decide) (by decide)
  have CA2 : ∀ (V : World) (vt vl : Value), IsTok V vt k2t → IsDrs V vl k2m → Calls Try.prog 17 #[vt, vl] V fun e w' => ∃ vt' vs, e = .returned (.tuple #[vt', vs]) ∧ TokS (fun k => V.heap.size ≤ k) w' vt' k3t ∧ SlsS (fun k => V.heap.size ≤ k) w' vs (admitT k2t k2m).2 ∧ RowKit.Below V.heap.size V w' := fun V vt vl h1 h2 => admit_wf vt vl k2t k2m V h1 h2 k2_wf k2m_ok (by decide) (by decide)
  have HW := hide hW0
  have HB0 := hide hB0
  have H00 := hide h0
  clear hW0 hB0 h0 hsz
  go_enter Try.func8, Try.ntmps8
  go_upto_region 2 with fail
  rw [HW.out]
  go_cut [2] (fun s2 wx => ∃ a c, s2 = .slice a 0 c ∧ TokAt wx w.heap.size k2t ∧ RowKit.Below w.heap.size w wx)
  case first =>
    refine region_begin 11 (by kernel_rfl) rfl ?_
    have H0 := hide (show W0.drew.heap[w.heap.size]? = _ from H00.out)
    have HB := hide (HB0.out.drew)
    generalize W0.drew = V0 at *
    clear HW HB0 H00
    refine stretchE (g := 6) 5 5 (fun X => X.cell? ⟨w.heap.size, 0, none⟩ = some (.int .i64 0) ∧ X.cell? ⟨w.heap.size, 1, none⟩ = some (.int .i64 5) ∧ X.cell? ⟨w.heap.size, 2, none⟩ = some (.slice none 0 0) ∧ X.cell? ⟨w.heap.size, 3, none⟩ = some (.slice none 0 0)) ?_
    refine HeadE.take 0 (.agg #[.int .i64 0, .int .i64 5, .slice none 0 0, .slice none 0 0]) rfl (by kernel_rfl) (.inl ⟨rfl, fun w2 ⟨s0, s1, s2, s3⟩ => by go_simp⟩) (by obtain ⟨a, b, c, d, -⟩ := cells4T H0.out; exact ⟨a, b, c, d⟩) ?_
    refine HeadE.all (rs := [1, 2]) (by kernel_rfl) (by simp) ?_
    intro i hi
    rcases List.mem_cons.1 hi with rfl | hi
    · clear hi
      refine wpOp_call rfl rfl 26 #[.int .i64 1, .int .i64 2, .slice none 0 0] (by go_simp) (CD1 1 2 0 rfl V0) ?_
      rintro e w1 ⟨rfl, rfl⟩
      have hb1 := box_below V0 (.cells #[.int .i64 0, .int .i64 1, .int .i64 2, .slice none 0 0, .string ⟨#[107]⟩, .string ⟨#[]⟩] 41)
      have hz1 : V0.heap.size < (V0.alloc (.cells #[.int .i64 0, .int .i64 1, .int .i64 2, .slice none 0 0, .string ⟨#[107]⟩, .string ⟨#[]⟩] 41)).heap.size := by simp
      generalize V0.alloc (.cells #[.int .i64 0, .int .i64 1, .int .i64 2, .slice none 0 0, .string ⟨#[107]⟩, .string ⟨#[]⟩] 41) = Va1 at *
      replace H0 := hide (keepB H0.out hb1)
      replace HB := hide (HB.out.trans (hb1.mono HB.out.size))
      clear hb1
      refine ⟨_, rfl, ?_, ?_⟩
      · exact by obtain ⟨a, b, c, d, -⟩ := cells4T H0.out; exact ⟨a, b, c, d⟩
      refine HeadE.only 2 (by kernel_rfl) ?_
      refine wpOp_val rfl rfl (v := .slice (some ⟨Va1.heap.size, 0, none⟩) 2 2) (w' := Va1.alloc (.cells #[.int .i64 0, .int .i64 2] 3)) (by go_simp) ?_
      have hb2 := box_below Va1 (.cells #[.int .i64 0, .int .i64 2] 3)
      have X2 := hide (World.alloc_heap_new Va1 (.cells #[.int .i64 0, .int .i64 2] 3))
      have hz2 : Va1.heap.size < (Va1.alloc (.cells #[.int .i64 0, .int .i64 2] 3)).heap.size := by simp
      generalize Va1.alloc (.cells #[.int .i64 0, .int .i64 2] 3) = Va2 at *
      replace H0 := hide (keepB H0.out hb2)
      replace HB := hide (HB.out.trans (hb2.mono HB.out.size))
      clear hb2
      refine ⟨by obtain ⟨a, b, c, d, -⟩ := cells4T H0.out; exact ⟨a, b, c, d⟩, ?_⟩
      refine HeadE.only 3 (by kernel_rfl) ?_
      refine wpOp_call rfl rfl 26 #[.int .i64 0, .int .i64 0, .slice (some ⟨Va1.heap.size, 0, none⟩) 2 2] (by go_simp) (CD2 _ Va2 (nums_lit (l := [0, 2]) X2.out rfl)) ?_
      rintro e w1 ⟨rfl, rfl⟩
      have hb3 := box_below Va2 (.cells #[.int .i64 1, .int .i64 0, .int .i64 0, .slice (some ⟨Va1.heap.size, 0, none⟩) 2 2, .string ⟨#[107]⟩, .string ⟨#[]⟩] 41)
      have hz3 : Va2.heap.size < (Va2.alloc (.cells #[.int .i64 1, .int .i64 0, .int .i64 0, .slice (some ⟨Va1.heap.size, 0, none⟩) 2 2, .string ⟨#[107]⟩, .string ⟨#[]⟩] 41)).heap.size := by simp
      generalize Va2.alloc (.cells #[.int .i64 1, .int .i64 0, .int .i64 0, .slice (some ⟨Va1.heap.size, 0, none⟩) 2 2, .string ⟨#[107]⟩, .string ⟨#[]⟩] 41) = Va3 at *
      replace H0 := hide (keepB H0.out hb3)
      replace X2 := hide (keepB X2.out hb3)
      replace HB := hide (HB.out.trans (hb3.mono HB.out.size))
      clear hb3
      refine ⟨_, rfl, ?_, ?_⟩
      · exact by obtain ⟨a, b, c, d, -⟩ := cells4T H0.out; exact ⟨a, b, c, d⟩
      refine HeadE.only 4 (by kernel_rfl) ?_
      refine wpOp_val rfl rfl (v := .slice (some ⟨Va3.heap.size, 0, none⟩) 2 2) (w' := Va3.alloc (.cells #[.int .i64 0, .int .i64 1, .int .i64 2, .slice none 0 0, .string ⟨#[107]⟩, .string ⟨#[]⟩, .int .i64 1, .int .i64 0, .int .i64 0, .slice (some ⟨Va1.heap.size, 0, none⟩) 2 2, .string ⟨#[107]⟩, .string ⟨#[]⟩] 41)) (by go_simp) ?_
      have hb4 := box_below Va3 (.cells #[.int .i64 0, .int .i64 1, .int .i64 2, .slice none 0 0, .string ⟨#[107]⟩, .string ⟨#[]⟩, .int .i64 1, .int .i64 0, .int .i64 0, .slice (some ⟨Va1.heap.size, 0, none⟩) 2 2, .string ⟨#[107]⟩, .string ⟨#[]⟩] 41)
      have X4 := hide (World.alloc_heap_new Va3 (.cells #[.int .i64 0, .int .i64 1, .int .i64 2, .slice none 0 0, .string ⟨#[107]⟩, .string ⟨#[]⟩, .int .i64 1, .int .i64 0, .int .i64 0, .slice (some ⟨Va1.heap.size, 0, none⟩) 2 2, .string ⟨#[107]⟩, .string ⟨#[]⟩] 41))
      have hz4 : Va3.heap.size < (Va3.alloc (.cells #[.int .i64 0, .int .i64 1, .int .i64 2, .slice none 0 0, .string ⟨#[107]⟩, .string ⟨#[]⟩, .int .i64 1, .int .i64 0, .int .i64 0, .slice (some ⟨Va1.heap.size, 0, none⟩) 2 2, .string ⟨#[107]⟩, .string ⟨#[]⟩] 41)).heap.size := by simp
      generalize Va3.alloc (.cells #[.int .i64 0, .int .i64 1, .int .i64 2, .slice none 0 0, .string ⟨#[107]⟩, .string ⟨#[]⟩, .int .i64 1, .int .i64 0, .int .i64 0, .slice (some ⟨Va1.heap.size, 0, none⟩) 2 2, .string ⟨#[107]⟩, .string ⟨#[]⟩] 41) = Va4 at *
      replace H0 := hide (keepB H0.out hb4)
      replace X2 := hide (keepB X2.out hb4)
      replace HB := hide (HB.out.trans (hb4.mono HB.out.size))
      clear hb4
      refine ⟨by obtain ⟨a, b, c, d, -⟩ := cells4T H0.out; exact ⟨a, b, c, d⟩, ?_⟩
      refine HeadE.fin (by kernel_rfl) ?_
      refine onlyA 5 (by kernel_rfl) ?_
      refine wpOp_call rfl rfl 17 #[.agg #[.int .i64 0, .int .i64 5, .slice none 0 0, .slice none 0 0], .slice (some ⟨Va3.heap.size, 0, none⟩) 2 2] (by go_simp) (CA1 Va4 (.agg #[.int .i64 0, .int .i64 5, .slice none 0 0, .slice none 0 0]) _ (k1_tok _) (IsDrs.lit (l := [⟨dD 1 2 [], .slice none 0 0⟩, ⟨dD 0 0 [0, 2], .slice (some ⟨Va1.heap.size, 0, none⟩) 2 2⟩]) X4.out rfl (by intro q hq; simp only [List.mem_cons, List.not_mem_nil, or_false] at hq; rcases hq with rfl | rfl <;> first | exact IsNums.nil _ _ _ _ | exact nums_lit (l := [0, 2]) X2.out rfl) (by simp))) ?_
      rintro e Va5 ⟨vt', vs', rfl, htok, hsls, hbA⟩
      obtain ⟨sa', sc', la', lc', rfl, -, -⟩ := htok.tok
      obtain ⟨qa', qc', rfl⟩ := hsls.sls.form
      have Hlo : Hid (w.heap.size < Va4.heap.size) := hide (by have := (ltB H0.out); exact this)
      replace H0 := hide (keepB H0.out hbA)
      replace X2 := hide (keepB X2.out hbA)
      replace X4 := hide (keepB X4.out hbA)
      replace HB := hide (HB.out.trans (hbA.mono HB.out.size))
      have hzA := hbA.size
      have Htok := hide htok
      have Hsls := hide hsls
      clear htok hsls hbA
      refine ⟨_, rfl, ?_⟩
      refine onlyA 6 (by kernel_rfl) ?_
      refine wpOp_val rfl rfl (v := .tuple #[.agg #[.int .i64 k2t.own, .int .i64 k2t.next, .slice sa' k2t.seen.length sc', .slice la' k2t.late.length lc'], .slice qa' (admitT k1t k1m).2.length qc']) (w' := Va5) (by go_simp) ?_
      refine takeA 7 (.agg #[.int .i64 k2t.own, .int .i64 k2t.next, .slice sa' k2t.seen.length sc', .slice la' k2t.late.length lc']) rfl (by kernel_rfl) (.inl ⟨rfl, fun w2 => by go_simp⟩) ?_
      refine takeA 8 (.slice qa' (admitT k1t k1m).2.length qc') rfl (by kernel_rfl) (.inl ⟨rfl, fun w2 => by go_simp⟩) ?_
      refine onlyA 9 (by kernel_rfl) ?_
      obtain ⟨x0, x1, x2, x3, f0, f1, f2, f3⟩ := cells4T H0.out
      refine wpOp_skip rfl rfl (w' := put4T Va5 w.heap.size (.int .i64 k2t.own) (.int .i64 k2t.next) (.slice sa' k2t.seen.length sc') (.slice la' k2t.late.length lc')) (by unfold put4T; go_simp) ?_
      have hst : TokAt (put4T Va5 w.heap.size (.int .i64 k2t.own) (.int .i64 k2t.next) (.slice sa' k2t.seen.length sc') (.slice la' k2t.late.length lc')) w.heap.size k2t := ⟨_, _, put4T_heap H0.out _ _ _ _, (Htok.out.touch (put4T_touch (S := fun k => k = w.heap.size) Va5 rfl (.int .i64 k2t.own) (.int .i64 k2t.next) (.slice sa' k2t.seen.length sc') (.slice la' k2t.late.length lc')) fun k h1 h2 => by have := Hlo.out; omega).mono fun k _ h => by have := Hlo.out; omega⟩
      have hsl := Hsls.out.touch (put4T_touch (S := fun k => k = w.heap.size) Va5 rfl (.int .i64 k2t.own) (.int .i64 k2t.next) (.slice sa' k2t.seen.length sc') (.slice la' k2t.late.length lc')) fun k h1 h2 => by have := Hlo.out; omega
      have hbl := put4T_below HB.out (Nat.le_refl _) (.int .i64 k2t.own) (.int .i64 k2t.next) (.slice sa' k2t.seen.length sc') (.slice la' k2t.late.length lc')
      generalize put4T Va5 w.heap.size (.int .i64 k2t.own) (.int .i64 k2t.next) (.slice sa' k2t.seen.length sc') (.slice la' k2t.late.length lc') = VE at *
      clear x0 x1 x2 x3 f0 f1 f2 f3
      refine onlyA 10 (by kernel_rfl) ?_
      refine wpOp_val rfl rfl (v := .slice qa' (admitT k1t k1m).2.length qc') (w' := VE) (by go_simp) ?_
      refine endA (by kernel_rfl) ?_
      go_simp
      go_step
      go_meet
      exact ⟨qa', qc', by rw [k1_none], hst, hbl⟩
    · obtain rfl : i = 2 := by simpa using hi
      clear hi
      refine wpOp_val rfl rfl (v := .slice (some ⟨V0.heap.size, 0, none⟩) 2 2) (w' := V0.alloc (.cells #[.int .i64 0, .int .i64 2] 3)) (by go_simp) ?_
      have hb6 := box_below V0 (.cells #[.int .i64 0, .int .i64 2] 3)
      have X2 := hide (World.alloc_heap_new V0 (.cells #[.int .i64 0, .int .i64 2] 3))
      have hz6 : V0.heap.size < (V0.alloc (.cells #[.int .i64 0, .int .i64 2] 3)).heap.size := by simp
      generalize V0.alloc (.cells #[.int .i64 0, .int .i64 2] 3) = Va6 at *
      replace H0 := hide (keepB H0.out hb6)
      replace HB := hide (HB.out.trans (hb6.mono HB.out.size))
      clear hb6
      refine ⟨by obtain ⟨a, b, c, d, -⟩ := cells4T H0.out; exact ⟨a, b, c, d⟩, ?_⟩
      refine HeadE.only 1 (by kernel_rfl) ?_
      refine wpOp_call rfl rfl 26 #[.int .i64 1, .int .i64 2, .slice none 0 0] (by go_simp) (CD1 1 2 0 rfl Va6) ?_
      rintro e w1 ⟨rfl, rfl⟩
      have hb7 := box_below Va6 (.cells #[.int .i64 0, .int .i64 1, .int .i64 2, .slice none 0 0, .string ⟨#[107]⟩, .string ⟨#[]⟩] 41)
      have hz7 : Va6.heap.size < (Va6.alloc (.cells #[.int .i64 0, .int .i64 1, .int .i64 2, .slice none 0 0, .string ⟨#[107]⟩, .string ⟨#[]⟩] 41)).heap.size := by simp
      generalize Va6.alloc (.cells #[.int .i64 0, .int .i64 1, .int .i64 2, .slice none 0 0, .string ⟨#[107]⟩, .string ⟨#[]⟩] 41) = Va7 at *
      replace H0 := hide (keepB H0.out hb7)
      replace X2 := hide (keepB X2.out hb7)
      replace HB := hide (HB.out.trans (hb7.mono HB.out.size))
      clear hb7
      refine ⟨_, rfl, ?_, ?_⟩
      · exact by obtain ⟨a, b, c, d, -⟩ := cells4T H0.out; exact ⟨a, b, c, d⟩
      refine HeadE.only 3 (by kernel_rfl) ?_
      refine wpOp_call rfl rfl 26 #[.int .i64 0, .int .i64 0, .slice (some ⟨V0.heap.size, 0, none⟩) 2 2] (by go_simp) (CD2 _ Va7 (nums_lit (l := [0, 2]) X2.out rfl)) ?_
      rintro e w1 ⟨rfl, rfl⟩
      have hb8 := box_below Va7 (.cells #[.int .i64 1, .int .i64 0, .int .i64 0, .slice (some ⟨V0.heap.size, 0, none⟩) 2 2, .string ⟨#[107]⟩, .string ⟨#[]⟩] 41)
      have hz8 : Va7.heap.size < (Va7.alloc (.cells #[.int .i64 1, .int .i64 0, .int .i64 0, .slice (some ⟨V0.heap.size, 0, none⟩) 2 2, .string ⟨#[107]⟩, .string ⟨#[]⟩] 41)).heap.size := by simp
      generalize Va7.alloc (.cells #[.int .i64 1, .int .i64 0, .int .i64 0, .slice (some ⟨V0.heap.size, 0, none⟩) 2 2, .string ⟨#[107]⟩, .string ⟨#[]⟩] 41) = Va8 at *
      replace H0 := hide (keepB H0.out hb8)
      replace X2 := hide (keepB X2.out hb8)
      replace HB := hide (HB.out.trans (hb8.mono HB.out.size))
      clear hb8
      refine ⟨_, rfl, ?_, ?_⟩
      · exact by obtain ⟨a, b, c, d, -⟩ := cells4T H0.out; exact ⟨a, b, c, d⟩
      refine HeadE.only 4 (by kernel_rfl) ?_
      refine wpOp_val rfl rfl (v := .slice (some ⟨Va8.heap.size, 0, none⟩) 2 2) (w' := Va8.alloc (.cells #[.int .i64 0, .int .i64 1, .int .i64 2, .slice none 0 0, .string ⟨#[107]⟩, .string ⟨#[]⟩, .int .i64 1, .int .i64 0, .int .i64 0, .slice (some ⟨V0.heap.size, 0, none⟩) 2 2, .string ⟨#[107]⟩, .string ⟨#[]⟩] 41)) (by go_simp) ?_
      have hb9 := box_below Va8 (.cells #[.int .i64 0, .int .i64 1, .int .i64 2, .slice none 0 0, .string ⟨#[107]⟩, .string ⟨#[]⟩, .int .i64 1, .int .i64 0, .int .i64 0, .slice (some ⟨V0.heap.size, 0, none⟩) 2 2, .string ⟨#[107]⟩, .string ⟨#[]⟩] 41)
      have X4 := hide (World.alloc_heap_new Va8 (.cells #[.int .i64 0, .int .i64 1, .int .i64 2, .slice none 0 0, .string ⟨#[107]⟩, .string ⟨#[]⟩, .int .i64 1, .int .i64 0, .int .i64 0, .slice (some ⟨V0.heap.size, 0, none⟩) 2 2, .string ⟨#[107]⟩, .string ⟨#[]⟩] 41))
      have hz9 : Va8.heap.size < (Va8.alloc (.cells #[.int .i64 0, .int .i64 1, .int .i64 2, .slice none 0 0, .string ⟨#[107]⟩, .string ⟨#[]⟩, .int .i64 1, .int .i64 0, .int .i64 0, .slice (some ⟨V0.heap.size, 0, none⟩) 2 2, .string ⟨#[107]⟩, .string ⟨#[]⟩] 41)).heap.size := by simp
      generalize Va8.alloc (.cells #[.int .i64 0, .int .i64 1, .int .i64 2, .slice none 0 0, .string ⟨#[107]⟩, .string ⟨#[]⟩, .int .i64 1, .int .i64 0, .int .i64 0, .slice (some ⟨V0.heap.size, 0, none⟩) 2 2, .string ⟨#[107]⟩, .string ⟨#[]⟩] 41) = Va9 at *
      replace H0 := hide (keepB H0.out hb9)
      replace X2 := hide (keepB X2.out hb9)
      replace HB := hide (HB.out.trans (hb9.mono HB.out.size))
      clear hb9
      refine ⟨by obtain ⟨a, b, c, d, -⟩ := cells4T H0.out; exact ⟨a, b, c, d⟩, ?_⟩
      refine HeadE.fin (by kernel_rfl) ?_
      refine onlyA 5 (by kernel_rfl) ?_
      refine wpOp_call rfl rfl 17 #[.agg #[.int .i64 0, .int .i64 5, .slice none 0 0, .slice none 0 0], .slice (some ⟨Va8.heap.size, 0, none⟩) 2 2] (by go_simp) (CA1 Va9 (.agg #[.int .i64 0, .int .i64 5, .slice none 0 0, .slice none 0 0]) _ (k1_tok _) (IsDrs.lit (l := [⟨dD 1 2 [], .slice none 0 0⟩, ⟨dD 0 0 [0, 2], .slice (some ⟨V0.heap.size, 0, none⟩) 2 2⟩]) X4.out rfl (by intro q hq; simp only [List.mem_cons, List.not_mem_nil, or_false] at hq; rcases hq with rfl | rfl <;> first | exact IsNums.nil _ _ _ _ | exact nums_lit (l := [0, 2]) X2.out rfl) (by simp))) ?_
      rintro e Va10 ⟨vt', vs', rfl, htok, hsls, hbA⟩
      obtain ⟨sa', sc', la', lc', rfl, -, -⟩ := htok.tok
      obtain ⟨qa', qc', rfl⟩ := hsls.sls.form
      have Hlo : Hid (w.heap.size < Va9.heap.size) := hide (by have := (ltB H0.out); exact this)
      replace H0 := hide (keepB H0.out hbA)
      replace X2 := hide (keepB X2.out hbA)
      replace X4 := hide (keepB X4.out hbA)
      replace HB := hide (HB.out.trans (hbA.mono HB.out.size))
      have hzA := hbA.size
      have Htok := hide htok
      have Hsls := hide hsls
      clear htok hsls hbA
      refine ⟨_, rfl, ?_⟩
      refine onlyA 6 (by kernel_rfl) ?_
      refine wpOp_val rfl rfl (v := .tuple #[.agg #[.int .i64 k2t.own, .int .i64 k2t.next, .slice sa' k2t.seen.length sc', .slice la' k2t.late.length lc'], .slice qa' (admitT k1t k1m).2.length qc']) (w' := Va10) (by go_simp) ?_
      refine takeA 7 (.agg #[.int .i64 k2t.own, .int .i64 k2t.next, .slice sa' k2t.seen.length sc', .slice la' k2t.late.length lc']) rfl (by kernel_rfl) (.inl ⟨rfl, fun w2 => by go_simp⟩) ?_
      refine takeA 8 (.slice qa' (admitT k1t k1m).2.length qc') rfl (by kernel_rfl) (.inl ⟨rfl, fun w2 => by go_simp⟩) ?_
      refine onlyA 9 (by kernel_rfl) ?_
      obtain ⟨x0, x1, x2, x3, f0, f1, f2, f3⟩ := cells4T H0.out
      refine wpOp_skip rfl rfl (w' := put4T Va10 w.heap.size (.int .i64 k2t.own) (.int .i64 k2t.next) (.slice sa' k2t.seen.length sc') (.slice la' k2t.late.length lc')) (by unfold put4T; go_simp) ?_
      have hst : TokAt (put4T Va10 w.heap.size (.int .i64 k2t.own) (.int .i64 k2t.next) (.slice sa' k2t.seen.length sc') (.slice la' k2t.late.length lc')) w.heap.size k2t := ⟨_, _, put4T_heap H0.out _ _ _ _, (Htok.out.touch (put4T_touch (S := fun k => k = w.heap.size) Va10 rfl (.int .i64 k2t.own) (.int .i64 k2t.next) (.slice sa' k2t.seen.length sc') (.slice la' k2t.late.length lc')) fun k h1 h2 => by have := Hlo.out; omega).mono fun k _ h => by have := Hlo.out; omega⟩
      have hsl := Hsls.out.touch (put4T_touch (S := fun k => k = w.heap.size) Va10 rfl (.int .i64 k2t.own) (.int .i64 k2t.next) (.slice sa' k2t.seen.length sc') (.slice la' k2t.late.length lc')) fun k h1 h2 => by have := Hlo.out; omega
      have hbl := put4T_below HB.out (Nat.le_refl _) (.int .i64 k2t.own) (.int .i64 k2t.next) (.slice sa' k2t.seen.length sc') (.slice la' k2t.late.length lc')
      generalize put4T Va10 w.heap.size (.int .i64 k2t.own) (.int .i64 k2t.next) (.slice sa' k2t.seen.length sc') (.slice la' k2t.late.length lc') = VE at *
      clear x0 x1 x2 x3 f0 f1 f2 f3
      refine onlyA 10 (by kernel_rfl) ?_
      refine wpOp_val rfl rfl (v := .slice qa' (admitT k1t k1m).2.length qc') (w' := VE) (by go_simp) ?_
      refine endA (by kernel_rfl) ?_
      go_simp
      go_step
      go_meet
      exact ⟨qa', qc', by rw [k1_none], hst, hbl⟩
  case rest =>
    clear HW HB0 H00
    obtain ⟨a2, c2, rfl, ⟨tsv, tlv, hcell, hS⟩, hb⟩ := hcut
    obtain ⟨tsa, tsc, tla, tlc, he, -, -⟩ := hS.tok
    simp only [Value.agg.injEq, Array.mk.injEq, List.cons.injEq, and_true, true_and] at he
    obtain ⟨rfl, rfl⟩ := he
    obtain ⟨x0, x1, x2, x3, -⟩ := cells4T hcell
    have hl2 : (((k2t.late.length : Nat) : Int) != 2) = false := by rw [k2_late]; rfl
    have H00 := hide hcell
    have HTS := hide hS
    have HBw := hide hb
    clear hcell hS hb
    go_upto_region 5 with fail
    clear x0 x1 x2 x3 hl2
    go_cut [3] (fun s3 wx => ∃ a c, s3 = .slice a 3 c ∧ IsSls wx (.slice a (admitT k2t k2m).2.length c) (admitT k2t k2m).2 ∧ TokAt wx w.heap.size k3t ∧ RowKit.Below w.heap.size w wx)
    case first =>
      refine region_begin 11 (by kernel_rfl) rfl ?_
      have H0 := hide (show wc.drew.heap[w.heap.size]? = _ from H00.out)
      have HB := hide (HBw.out.drew)
      have HB5 := hide ((RowKit.Below.refl wc.heap.size wc).drew)
      generalize wc.drew = V0 at *
      clear H00 HBw
      refine stretchE (g := 6) 5 5 (fun X => X.cell? ⟨w.heap.size, 0, none⟩ = some (.int .i64 k2t.own) ∧ X.cell? ⟨w.heap.size, 1, none⟩ = some (.int .i64 k2t.next) ∧ X.cell? ⟨w.heap.size, 2, none⟩ = some (.slice tsa k2t.seen.length tsc) ∧ X.cell? ⟨w.heap.size, 3, none⟩ = some (.slice tla k2t.late.length tlc)) ?_
      refine HeadE.take 0 (.agg #[.int .i64 k2t.own, .int .i64 k2t.next, .slice tsa k2t.seen.length tsc, .slice tla k2t.late.length tlc]) rfl (by kernel_rfl) (.inl ⟨rfl, fun w2 ⟨s0, s1, s2, s3⟩ => by go_simp⟩) (by obtain ⟨a, b, c, d, -⟩ := cells4T H0.out; exact ⟨a, b, c, d⟩) ?_
      refine HeadE.only 1 (by kernel_rfl) ?_
      refine wpOp_call rfl rfl 26 #[.int .i64 1, .int .i64 1, .slice none 0 0] (by go_simp) (CD1 1 1 0 rfl V0) ?_
      rintro e w1 ⟨rfl, rfl⟩
      have hb1 := box_below V0 (.cells #[.int .i64 0, .int .i64 1, .int .i64 1, .slice none 0 0, .string ⟨#[107]⟩, .string ⟨#[]⟩] 41)
      have hz1 : V0.heap.size < (V0.alloc (.cells #[.int .i64 0, .int .i64 1, .int .i64 1, .slice none 0 0, .string ⟨#[107]⟩, .string ⟨#[]⟩] 41)).heap.size := by simp
      generalize V0.alloc (.cells #[.int .i64 0, .int .i64 1, .int .i64 1, .slice none 0 0, .string ⟨#[107]⟩, .string ⟨#[]⟩] 41) = Vb1 at *
      replace HB5 := hide (HB5.out.trans (hb1.mono HB5.out.size))
      replace H0 := hide (keepB H0.out hb1)
      replace HB := hide (HB.out.trans (hb1.mono HB.out.size))
      clear hb1
      refine ⟨_, rfl, ?_, ?_⟩
      · exact by obtain ⟨a, b, c, d, -⟩ := cells4T H0.out; exact ⟨a, b, c, d⟩
      refine HeadE.only 2 (by kernel_rfl) ?_
      refine wpOp_call rfl rfl 26 #[.int .i64 1, .int .i64 2, .slice none 0 0] (by go_simp) (CD1 1 2 0 rfl Vb1) ?_
      rintro e w1 ⟨rfl, rfl⟩
      have hb2 := box_below Vb1 (.cells #[.int .i64 0, .int .i64 1, .int .i64 2, .slice none 0 0, .string ⟨#[107]⟩, .string ⟨#[]⟩] 41)
      have hz2 : Vb1.heap.size < (Vb1.alloc (.cells #[.int .i64 0, .int .i64 1, .int .i64 2, .slice none 0 0, .string ⟨#[107]⟩, .string ⟨#[]⟩] 41)).heap.size := by simp
      generalize Vb1.alloc (.cells #[.int .i64 0, .int .i64 1, .int .i64 2, .slice none 0 0, .string ⟨#[107]⟩, .string ⟨#[]⟩] 41) = Vb2 at *
      replace HB5 := hide (HB5.out.trans (hb2.mono HB5.out.size))
      replace H0 := hide (keepB H0.out hb2)
      replace HB := hide (HB.out.trans (hb2.mono HB.out.size))
      clear hb2
      refine ⟨_, rfl, ?_, ?_⟩
      · exact by obtain ⟨a, b, c, d, -⟩ := cells4T H0.out; exact ⟨a, b, c, d⟩
      refine HeadE.only 3 (by kernel_rfl) ?_
      refine wpOp_call rfl rfl 26 #[.int .i64 1, .int .i64 1, .slice none 0 0] (by go_simp) (CD1 1 1 0 rfl Vb2) ?_
      rintro e w1 ⟨rfl, rfl⟩
      have hb3 := box_below Vb2 (.cells #[.int .i64 0, .int .i64 1, .int .i64 1, .slice none 0 0, .string ⟨#[107]⟩, .string ⟨#[]⟩] 41)
      have hz3 : Vb2.heap.size < (Vb2.alloc (.cells #[.int .i64 0, .int .i64 1, .int .i64 1, .slice none 0 0, .string ⟨#[107]⟩, .string ⟨#[]⟩] 41)).heap.size := by simp
      generalize Vb2.alloc (.cells #[.int .i64 0, .int .i64 1, .int .i64 1, .slice none 0 0, .string ⟨#[107]⟩, .string ⟨#[]⟩] 41) = Vb3 at *
      replace HB5 := hide (HB5.out.trans (hb3.mono HB5.out.size))
      replace H0 := hide (keepB H0.out hb3)
      replace HB := hide (HB.out.trans (hb3.mono HB.out.size))
      clear hb3
      refine ⟨_, rfl, ?_, ?_⟩
      · exact by obtain ⟨a, b, c, d, -⟩ := cells4T H0.out; exact ⟨a, b, c, d⟩
      refine HeadE.only 4 (by kernel_rfl) ?_
      refine wpOp_val rfl rfl (v := .slice (some ⟨Vb3.heap.size, 0, none⟩) 3 3) (w' := Vb3.alloc (.cells #[.int .i64 0, .int .i64 1, .int .i64 1, .slice none 0 0, .string ⟨#[107]⟩, .string ⟨#[]⟩, .int .i64 0, .int .i64 1, .int .i64 2, .slice none 0 0, .string ⟨#[107]⟩, .string ⟨#[]⟩, .int .i64 0, .int .i64 1, .int .i64 1, .slice none 0 0, .string ⟨#[107]⟩, .string ⟨#[]⟩] 41)) (by go_simp) ?_
      have hb4 := box_below Vb3 (.cells #[.int .i64 0, .int .i64 1, .int .i64 1, .slice none 0 0, .string ⟨#[107]⟩, .string ⟨#[]⟩, .int .i64 0, .int .i64 1, .int .i64 2, .slice none 0 0, .string ⟨#[107]⟩, .string ⟨#[]⟩, .int .i64 0, .int .i64 1, .int .i64 1, .slice none 0 0, .string ⟨#[107]⟩, .string ⟨#[]⟩] 41)
      have X4 := hide (World.alloc_heap_new Vb3 (.cells #[.int .i64 0, .int .i64 1, .int .i64 1, .slice none 0 0, .string ⟨#[107]⟩, .string ⟨#[]⟩, .int .i64 0, .int .i64 1, .int .i64 2, .slice none 0 0, .string ⟨#[107]⟩, .string ⟨#[]⟩, .int .i64 0, .int .i64 1, .int .i64 1, .slice none 0 0, .string ⟨#[107]⟩, .string ⟨#[]⟩] 41))
      have hz4 : Vb3.heap.size < (Vb3.alloc (.cells #[.int .i64 0, .int .i64 1, .int .i64 1, .slice none 0 0, .string ⟨#[107]⟩, .string ⟨#[]⟩, .int .i64 0, .int .i64 1, .int .i64 2, .slice none 0 0, .string ⟨#[107]⟩, .string ⟨#[]⟩, .int .i64 0, .int .i64 1, .int .i64 1, .slice none 0 0, .string ⟨#[107]⟩, .string ⟨#[]⟩] 41)).heap.size := by simp
      generalize Vb3.alloc (.cells #[.int .i64 0, .int .i64 1, .int .i64 1, .slice none 0 0, .string ⟨#[107]⟩, .string ⟨#[]⟩, .int .i64 0, .int .i64 1, .int .i64 2, .slice none 0 0, .string ⟨#[107]⟩, .string ⟨#[]⟩, .int .i64 0, .int .i64 1, .int .i64 1, .slice none 0 0, .string ⟨#[107]⟩, .string ⟨#[]⟩] 41) = Vb4 at *
      replace HB5 := hide (HB5.out.trans (hb4.mono HB5.out.size))
      replace H0 := hide (keepB H0.out hb4)
      replace HB := hide (HB.out.trans (hb4.mono HB.out.size))
      clear hb4
      refine ⟨by obtain ⟨a, b, c, d, -⟩ := cells4T H0.out; exact ⟨a, b, c, d⟩, ?_⟩
      refine HeadE.fin (by kernel_rfl) ?_
      refine onlyA 5 (by kernel_rfl) ?_
      refine wpOp_call rfl rfl 17 #[.agg #[.int .i64 k2t.own, .int .i64 k2t.next, .slice tsa k2t.seen.length tsc, .slice tla k2t.late.length tlc], .slice (some ⟨Vb3.heap.size, 0, none⟩) 3 3] (by go_simp) (CA2 Vb4 (.agg #[.int .i64 k2t.own, .int .i64 k2t.next, .slice tsa k2t.seen.length tsc, .slice tla k2t.late.length tlc]) _ (HTS.out.new HB5.out).tok (IsDrs.lit (l := [⟨dD 1 1 [], .slice none 0 0⟩, ⟨dD 1 2 [], .slice none 0 0⟩, ⟨dD 1 1 [], .slice none 0 0⟩]) X4.out rfl (by intro q hq; simp only [List.mem_cons, List.not_mem_nil, or_false] at hq; rcases hq with rfl | rfl | rfl <;> exact IsNums.nil _ _ _ _) (by simp))) ?_
      rintro e Vb5 ⟨vt', vs', rfl, htok, hsls, hbA⟩
      obtain ⟨sa', sc', la', lc', rfl, -, -⟩ := htok.tok
      obtain ⟨qa', qc', rfl⟩ := hsls.sls.form
      have Hlo : Hid (w.heap.size < Vb4.heap.size) := hide (by have := (ltB H0.out); exact this)
      replace HB5 := hide (HB5.out.trans (hbA.mono HB5.out.size))
      replace H0 := hide (keepB H0.out hbA)
      replace X4 := hide (keepB X4.out hbA)
      replace HB := hide (HB.out.trans (hbA.mono HB.out.size))
      have hzA := hbA.size
      have Htok := hide htok
      have Hsls := hide hsls
      clear htok hsls hbA
      refine ⟨_, rfl, ?_⟩
      refine onlyA 6 (by kernel_rfl) ?_
      refine wpOp_val rfl rfl (v := .tuple #[.agg #[.int .i64 k3t.own, .int .i64 k3t.next, .slice sa' k3t.seen.length sc', .slice la' k3t.late.length lc'], .slice qa' (admitT k2t k2m).2.length qc']) (w' := Vb5) (by go_simp) ?_
      refine takeA 7 (.agg #[.int .i64 k3t.own, .int .i64 k3t.next, .slice sa' k3t.seen.length sc', .slice la' k3t.late.length lc']) rfl (by kernel_rfl) (.inl ⟨rfl, fun w2 => by go_simp⟩) ?_
      refine takeA 8 (.slice qa' (admitT k2t k2m).2.length qc') rfl (by kernel_rfl) (.inl ⟨rfl, fun w2 => by go_simp⟩) ?_
      refine onlyA 9 (by kernel_rfl) ?_
      obtain ⟨x0, x1, x2, x3, f0, f1, f2, f3⟩ := cells4T H0.out
      refine wpOp_skip rfl rfl (w' := put4T Vb5 w.heap.size (.int .i64 k3t.own) (.int .i64 k3t.next) (.slice sa' k3t.seen.length sc') (.slice la' k3t.late.length lc')) (by unfold put4T; go_simp) ?_
      have hst : TokAt (put4T Vb5 w.heap.size (.int .i64 k3t.own) (.int .i64 k3t.next) (.slice sa' k3t.seen.length sc') (.slice la' k3t.late.length lc')) w.heap.size k3t := ⟨_, _, put4T_heap H0.out _ _ _ _, (Htok.out.touch (put4T_touch (S := fun k => k = w.heap.size) Vb5 rfl (.int .i64 k3t.own) (.int .i64 k3t.next) (.slice sa' k3t.seen.length sc') (.slice la' k3t.late.length lc')) fun k h1 h2 => by have := Hlo.out; omega).mono fun k _ h => by have := Hlo.out; omega⟩
      have hsl := Hsls.out.touch (put4T_touch (S := fun k => k = w.heap.size) Vb5 rfl (.int .i64 k3t.own) (.int .i64 k3t.next) (.slice sa' k3t.seen.length sc') (.slice la' k3t.late.length lc')) fun k h1 h2 => by have := Hlo.out; omega
      have hbl := put4T_below HB.out (Nat.le_refl _) (.int .i64 k3t.own) (.int .i64 k3t.next) (.slice sa' k3t.seen.length sc') (.slice la' k3t.late.length lc')
      generalize put4T Vb5 w.heap.size (.int .i64 k3t.own) (.int .i64 k3t.next) (.slice sa' k3t.seen.length sc') (.slice la' k3t.late.length lc') = VE at *
      clear x0 x1 x2 x3 f0 f1 f2 f3
      refine onlyA 10 (by kernel_rfl) ?_
      refine wpOp_val rfl rfl (v := .slice qa' (admitT k2t k2m).2.length qc') (w' := VE) (by go_simp) ?_
      refine endA (by kernel_rfl) ?_
      go_simp
      go_step
      go_meet
      exact ⟨qa', qc', by rw [k2_three], hsl.sls, hst, hbl⟩
    case rest =>
      clear H00 HTS HBw
      obtain ⟨a3, c3, rfl, hsl, ⟨sv3, lv3, hcell, hS⟩, hb⟩ := hcut
      obtain ⟨tsa', tsc', tla', tlc', he, -, -⟩ := hS.tok
      simp only [Value.agg.injEq, Array.mk.injEq, List.cons.injEq, and_true, true_and] at he
      obtain ⟨rfl, rfl⟩ := he
      have hwf : TokWf k3t 5 12 := k2_wf.goesOn k2m k2m_ok
      have hseen : ∀ V : World, RowKit.Below wc.heap.size wc V → IsNums .i64 V (.slice tsa' 2 tsc') [1, 2] := fun V hV => by
        obtain ⟨y1, y2, y3, y4, he, hn, -⟩ := (hS.new hV).tok
        simp only [Value.agg.injEq, Array.mk.injEq, List.cons.injEq, and_true, true_and, Value.slice.injEq] at he
        obtain ⟨⟨rfl, rfl⟩, -⟩ := he
        have := k3_seen ▸ hn
        exact this
      have hmay : ∀ (V : World) (d : DrD) (vd : Value) (c : Bool), RowKit.Below wc.heap.size wc V → IsDr V vd d → d.r.dep = [] → mayD k3t.own k3t.seen d = c → Calls Try.prog 14 #[.agg #[.int .i64 0, .int .i64 8, .slice tsa' 2 tsc', .slice tla' 0 tlc'], vd] V fun e w' => e = .returned (.bool c) ∧ RowKit.Below V.heap.size V w' := fun V d vd c hV hd h0 hc => by
        have h1 := may_calls _ vd k3t d V (hS.new hV).tok hd hwf.seen (by rw [h0]; simp)
        rw [hc, k3_own, k3_next, k3_late, show k3t.seen.length = 2 by rw [k3_seen]; rfl] at h1
        exact h1
      have hchk : ∀ V : World, RowKit.Below wc.heap.size wc V → Calls Try.prog 10 #[.agg #[.int .i64 0, .int .i64 8, .slice tsa' 2 tsc', .slice tla' 0 tlc']] V fun e w' => e = .returned (.int .i64 0) ∧ RowKit.Below V.heap.size V w' := fun V hV => by
        have h1 := tokCheck_calls _ k3t V (hS.new hV).tok (by rw [k3_seen]; simp)
        rw [k3_check, k3_own, k3_next, k3_late, show k3t.seen.length = 2 by rw [k3_seen]; rfl] at h1
        exact h1
      rw [k3_own, k3_next, k3_late, show k3t.seen.length = 2 by rw [k3_seen]; rfl] at hcell
      obtain ⟨s0, s1, s2, hs, e0, e1, e2⟩ := three_of k3_list
      rw [hs] at hsl
      obtain ⟨a4, c4, he, hat⟩ := hsl
      simp only [Value.slice.injEq] at he
      obtain ⟨rfl, -, rfl⟩ := he
      obtain ⟨b, o, rfl, p0, -⟩ := hat 0 (by simp)
      obtain ⟨b', o', he, -, ⟨-, -, -, -, p1, -⟩⟩ := hat 1 (by simp)
      cases he
      obtain ⟨b', o', he, -, ⟨-, -, p2, p3, p4, -⟩⟩ := hat 2 (by simp)
      cases he
      simp only [Prod.mk.injEq] at e0 e1 e2
      simp only [List.getElem_cons_zero, List.getElem_cons_succ, e0.1, e1.2.2.2, e2.2.1, e2.2.2.1, e2.2.2.2] at p0 p1 p2 p3 p4
      simp only [Nat.zero_mul, Nat.add_zero, Nat.add_assoc, Nat.reduceMul, Nat.reduceAdd] at p0 p1 p2 p3 p4
      have hsv : everyB eqB [1, 2] [1, 2] = true := by decide +kernel
      have HSV := hide (fun (V : World) va vb (h1 : IsNums .i64 V va [1, 2]) (h2 : IsNums .i64 V vb [1, 2]) => show Calls Try.prog 25 #[va, vb] V fun e w' => e = .returned (.bool true) ∧ w' = V by have := refSame_calls va vb [1, 2] [1, 2] V h1 h2 (by simp) (by simp); rwa [hsv] at this)
      have HX := hide ((RowKit.Below.refl wc.heap.size wc).drew)
      have H0 := hide (show wc.drew.heap[w.heap.size]? = _ from hcell)
      have Hseen := hide hseen
      have Hmay := hide hmay
      have Hchk := hide hchk
      have Hb := hide hb
      have Hp := hide (show wc.drew.cell? _ = _ ∧ wc.drew.cell? _ = _ ∧ wc.drew.cell? _ = _ ∧ wc.drew.cell? _ = _ ∧ wc.drew.cell? _ = _ from ⟨p0, p1, p2, p3, p4⟩)
      clear hS hwf hs e0 e1 e2 hat hcell hseen hmay hchk hb CA1 CA2 CD2 hsv p0 p1 p2 p3 p4
      go_upto_region 6 with fail
      try dsimp only [List.append]
      refine region_begin 79 (by kernel_rfl) (by kernel_rfl) ?_
      generalize wc.drew = V0 at *
      obtain ⟨p0, p1, p2, p3, p4⟩ := Hp.out
      obtain ⟨x0, x1, x2, x3, -⟩ := cells4T H0.out
      refine chainTake 57 22 (by decide) (by kernel_rfl) ?_
      simp only [List.take_succ_cons, List.take_zero]
      first | go_big_quiet_step (fail) | quiet_step (fail)
      first | go_big_quiet_step (fail) | quiet_step (fail)
      first | go_big_quiet_step (fail) | quiet_step (fail)
      first | go_big_quiet_step (fail) | quiet_step (fail)
      first | go_big_quiet_step (fail) | quiet_step (fail)
      first | go_big_quiet_step (fail) | quiet_step (fail)
      first | go_big_quiet_step (fail) | quiet_step (fail)
      first | go_big_quiet_step (fail) | quiet_step (fail)
      first | go_big_quiet_step (fail) | quiet_step (fail)
      first | go_big_quiet_step (fail) | quiet_step (fail)
      first | go_big_quiet_step (fail) | quiet_step (fail)
      first | go_big_quiet_step (fail) | quiet_step (fail)
      first | go_big_quiet_step (fail) | quiet_step (fail)
      first | go_big_quiet_step (fail) | quiet_step (fail)
      first | go_big_quiet_step (fail) | quiet_step (fail)
      first | go_big_quiet_step (fail) | quiet_step (fail)
      first | go_big_quiet_step (fail) | quiet_step (fail)
      first | go_big_quiet_step (fail) | quiet_step (fail)
      first | go_big_quiet_step (fail) | quiet_step (fail)
      first | go_big_quiet_step (fail) | quiet_step (fail)
      first | go_big_quiet_step (fail) | quiet_step (fail)
      first | go_big_quiet_step (fail) | quiet_step (fail)
      first | go_big_quiet_step (fail) | quiet_step (fail)
      first | go_big_quiet_step (fail) | quiet_step (fail)
      first | go_big_quiet_step (fail) | quiet_step (fail)
      first | go_big_quiet_step (fail) | quiet_step (fail)
      first | go_big_quiet_step (fail) | quiet_step (fail)
      first | go_big_quiet_step (fail) | quiet_step (fail)
      first | go_big_quiet_step (fail) | quiet_step (fail)
      first | go_big_quiet_step (fail) | quiet_step (fail)
      first | go_big_quiet_step (fail) | quiet_step (fail)
      first | go_big_quiet_step (fail) | quiet_step (fail)
      first | go_big_quiet_step (fail) | quiet_step (fail)
      first | go_big_quiet_step (fail) | quiet_step (fail)
      first | go_big_quiet_step (fail) | quiet_step (fail)
      first | go_big_quiet_step (fail) | quiet_step (fail)
      first | go_big_quiet_step (fail) | quiet_step (fail)
      first | go_big_quiet_step (fail) | quiet_step (fail)
      first | go_big_quiet_step (fail) | quiet_step (fail)
      first | go_big_quiet_step (fail) | quiet_step (fail)
      first | go_big_quiet_step (fail) | quiet_step (fail)
      first | go_big_quiet_step (fail) | quiet_step (fail)
      first | go_big_quiet_step (fail) | quiet_step (fail)
      first | go_big_quiet_step (fail) | quiet_step (fail)
      first | go_big_quiet_step (fail) | quiet_step (fail)
      first | go_big_quiet_step (fail) | quiet_step (fail)
      first | go_big_quiet_step (fail) | quiet_step (fail)
      first | go_big_quiet_step (fail) | quiet_step (fail)
      first | go_big_quiet_step (fail) | quiet_step (fail)
      first | go_big_quiet_step (fail) | quiet_step (fail)
      first | go_big_quiet_step (fail) | quiet_step (fail)
      first | go_big_quiet_step (fail) | quiet_step (fail)
      first | go_big_quiet_step (fail) | quiet_step (fail)
      first | go_big_quiet_step (fail) | quiet_step (fail)
      first | go_big_quiet_step (fail) | quiet_step (fail)
      first | go_big_quiet_step (fail) | quiet_step (fail)
      first | go_big_quiet_step (fail) | quiet_step (fail)
      refine wpQuiet_nil ?_
      rintro V1 ⟨nq, hV1⟩
      replace HX := hide (show RowKit.Below wc.heap.size wc V1 by rw [hV1]; exact HX.out.trans ((drewsB V0 nq).mono HX.out.size))
      replace H0 := hide (Eq.trans (by rw [hV1]; rfl : V1.heap[w.heap.size]? = V0.heap[w.heap.size]?) H0.out)
      clear hV1 p0 p1 p2 p3 p4 x0 x1 x2 x3 Hp
      obtain ⟨x0, x1, x2, x3, -⟩ := cells4T H0.out
      refine takeA 57 (.pointer (some ⟨w.heap.size, 2, none⟩)) rfl (by kernel_rfl) (.inl ⟨by kernel_rfl, fun w2 => by go_simp⟩) ?_
      refine stretchE (g := 19) 2 60 (fun X => X.cell? ⟨w.heap.size, 2, none⟩ = some (.slice tsa' 2 tsc')) ?_
      refine HeadE.take 58 (.slice tsa' 2 tsc') rfl (by kernel_rfl) (.inl ⟨by kernel_rfl, fun w2 s2 => by go_simp⟩) x2 ?_
      refine HeadE.only 59 (by kernel_rfl) ?_
      refine wpOp_valG rfl (by kernel_rfl) (v := .slice (some ⟨V1.heap.size, 0, none⟩) 2 2) (w' := V1.alloc (.cells #[.int .i64 1, .int .i64 2] 3)) (by go_simp) ?_
      have hbx := box_below V1 (.cells #[.int .i64 1, .int .i64 2] 3)
      have hnl := nums_lit (l := [1, 2]) (World.alloc_heap_new V1 (.cells #[.int .i64 1, .int .i64 2] 3)) rfl
      generalize V1.alloc (.cells #[.int .i64 1, .int .i64 2] 3) = V2 at *
      replace HX := hide (HX.out.trans (hbx.mono HX.out.size))
      replace H0 := hide (keepB H0.out hbx)
      clear hbx x0 x1 x2 x3
      obtain ⟨x0, x1, x2, x3, -⟩ := cells4T H0.out
      refine ⟨x2, ?_⟩
      refine HeadE.fin (by kernel_rfl) ?_
      have HG := hide (fun d os => HX.out.trans ((below_regrown V2 d os).mono HX.out.size))
      have QSV := hide (fun d os => Calls.regrown_of ((HSV.out _ _ _ (Hseen.out _ (HG.out d os)) (hnl.below (below_regrown V2 d os))).mono fun e w' h => ⟨h.1, by rw [h.2]; exact RowKit.Below.refl _ _⟩))
      have QD3 := hide (fun d os => Calls.regrown_of ((CD1 1 3 0 rfl (Go.Sort.grow (redrawn V2 d) os)).mono fun e w' h => ⟨h.1, by rw [h.2]; exact box_below _ _⟩))
      have QD4 := hide (fun d os => Calls.regrown_of ((CD1 1 4 0 rfl (Go.Sort.grow (redrawn V2 d) os)).mono fun e w' h => ⟨h.1, by rw [h.2]; exact box_below _ _⟩))
      have QM3 := hide (fun d os => Calls.regrown_of (Hmay.out _ (dD 1 3 []) (.agg #[.int .i64 0, .int .i64 1, .int .i64 3, .slice none 0 0, .string ⟨#[107]⟩, .string ⟨#[]⟩]) _ (HG.out d os) ⟨none, 0, rfl, IsNums.nil _ _ _ _⟩ rfl k3_may))
      have QM4 := hide (fun d os => Calls.regrown_of (Hmay.out _ (dD 1 4 []) (.agg #[.int .i64 0, .int .i64 1, .int .i64 4, .slice none 0 0, .string ⟨#[107]⟩, .string ⟨#[]⟩]) _ (HG.out d os) ⟨none, 0, rfl, IsNums.nil _ _ _ _⟩ rfl k3_not))
      have QCH := hide (fun d os => Calls.regrown_of (Hchk.out _ (HG.out d os)))
      replace x0 := cell_regrown x0
      replace x1 := cell_regrown x1
      replace x2 := cell_regrown x2
      replace x3 := cell_regrown x3
      refine quietFromB 60 (by kernel_rfl) (by kernel_rfl) ?_
      simp only [List.drop_succ_cons, List.drop_zero]
      first | go_big_quiet_step (exact QSV.out _ _) | quiet_step (exact QSV.out _ _)
      first | go_big_quiet_step (fail) | quiet_step (fail)
      first | go_big_quiet_step (fail) | quiet_step (fail)
      first | go_big_quiet_step (fail) | quiet_step (fail)
      first | go_big_quiet_step (exact QD3.out _ _) | quiet_step (exact QD3.out _ _)
      first | go_big_quiet_step (exact QM3.out _ _) | quiet_step (exact QM3.out _ _)
      first | go_big_quiet_step (fail) | quiet_step (fail)
      first | go_big_quiet_step (fail) | quiet_step (fail)
      first | go_big_quiet_step (fail) | quiet_step (fail)
      first | go_big_quiet_step (exact QD4.out _ _) | quiet_step (exact QD4.out _ _)
      first | go_big_quiet_step (exact QM4.out _ _) | quiet_step (exact QM4.out _ _)
      first | go_big_quiet_step (fail) | quiet_step (fail)
      first | go_big_quiet_step (fail) | quiet_step (fail)
      first | go_big_quiet_step (fail) | quiet_step (fail)
      first | go_big_quiet_step (fail) | quiet_step (fail)
      first | go_big_quiet_step (exact QCH.out _ _) | quiet_step (exact QCH.out _ _)
      first | go_big_quiet_step (fail) | quiet_step (fail)
      first | go_big_quiet_step (fail) | quiet_step (fail)
      first | go_big_quiet_step (fail) | quiet_step (fail)
      refine wpQuiet_nil ?_
      intro _ hw'
      obtain ⟨⟨dq, osq⟩, hw''⟩ := hw'
      subst hw''
      have hend := Hb.out.trans ((HG.out dq osq).mono Hb.out.size)
      clear x0 x1 x2 x3 QSV QD3 QD4 QM3 QM4 QCH
      go_simp
      try simp only [noPanic]
      go_step
      first | go_ret | (go_wp2_with fail; go_ret) | go_simp
      exact ⟨rfl, hend⟩
end Go.Proofs.Ytdkpbfigjdmfpaa
