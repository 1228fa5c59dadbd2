/- Own work: the parts TK23, Words, RefB, RefBo, TKh, TK25, TKa of the proof, laid together. -/
import Derived.Test.YtdkpbfigjdmfpaaPartTokenAdmit1
import Derived.Test.YtdkpbfigjdmfpaaPartTokenAdmit2
import Derived.Test.YtdkpbfigjdmfpaaPartTokenChain2
import Derived.Test.YtdkpbfigjdmfpaaPartTokenChain10
import Derived.Test.YtdkpbfigjdmfpaaPartTokenChain9
import Derived.OrdersHeld
import Derived.Test.YtdkpbfigjdmfpaaPartTokenChain8
import Derived.Laws.AppendOwn
/- The reference's gone of layer 9. Own work; no statement. -/
set_option linter.unusedSimpArgs false
set_option linter.unusedVariables false
namespace Go.Proofs.Ytdkpbfigjdmfpaa
open Go.RowKit Go.Shelf Go.Sort

/-- What lies at place k of a row of drafts. -/
theorem RdD.cells {w : World} {b o cap : Nat} {l : List Dv} (h : RdD w (.slice (some ⟨b, o, none⟩) l.length cap) l) (t : Nat) (ht : t < l.length) : ∀ j, j < 6 → w.cell? ⟨b, o + t * 6 + j, none⟩ = l[t].cells[j]? := by
  obtain ⟨a', cap', e, hc, h0, h⟩ := h
  cases e
  obtain ⟨b', o', e, hr⟩ := h t ht
  cases e
  exact hr
theorem RdD.six {w : World} {b o cap : Nat} {l : List Dv} (h : RdD w (.slice (some ⟨b, o, none⟩) l.length cap) l) (t : Nat) (ht : t < l.length) :
    w.cell? ⟨b, o + t * 6, none⟩ = some (.int .i64 l[t].d.ticket) ∧ w.cell? ⟨b, o + t * 6 + 1, none⟩ = some (.int .i64 l[t].d.r.site) ∧ w.cell? ⟨b, o + t * 6 + 2, none⟩ = some (.int .i64 l[t].d.r.seq) ∧ w.cell? ⟨b, o + t * 6 + 3, none⟩ = some l[t].vd ∧ w.cell? ⟨b, o + t * 6 + 4, none⟩ = some (.string l[t].d.r.key) ∧ w.cell? ⟨b, o + t * 6 + 5, none⟩ = some (.string l[t].d.r.val) := by
  have c := h.cells t ht
  have c0 := c 0 (by omega)
  have c1 := c 1 (by omega)
  have c2 := c 2 (by omega)
  have c3 := c 3 (by omega)
  have c4 := c 4 (by omega)
  have c5 := c 5 (by omega)
  simp only [Dv.cells, List.getElem?_cons_zero, List.getElem?_cons_succ, Nat.add_zero] at c0 c1 c2 c3 c4 c5
  exact ⟨c0, c1, c2, c3, c4, c5⟩
/-- No one of the first m is named like d. -/
def noneT (l : List Dv) (m : Nat) (d : DrD) : Prop := ∀ j (h : j < l.length), j < m → ¬ (l[j].d.r.site = d.r.site ∧ l[j].d.r.seq = d.r.seq)
theorem gone_none {own : Int} {s : List Int} {l : List Dv} {m : Nat} {d : DrD} (ho : ¬ d.r.site = own) (hg : ¬ d.r.seq ≤ geti s d.r.site) (h : noneT l m d) (hm : m ≤ l.length) : goneT own s ((l.map (·.d)).take m) d = false := by
  unfold goneT
  rw [if_neg ho]
  simp only [Bool.or_eq_false_iff, decide_eq_false_iff_not, List.any_eq_false, Bool.and_eq_true, decide_eq_true_eq]
  refine ⟨hg, fun x hx => ?_⟩
  obtain ⟨j, hj, rfl⟩ := List.getElem_of_mem hx
  rw [List.length_take, List.length_map] at hj
  rw [List.getElem_take, List.getElem_map]
  exact h j (by omega) (by omega)
theorem gone_some {own : Int} {s : List Int} {l : List Dv} {m : Nat} {d : DrD} (ho : ¬ d.r.site = own) (j : Nat) (hj : j < l.length) (hjm : j < m) (h : l[j].d.r.site = d.r.site ∧ l[j].d.r.seq = d.r.seq) : goneT own s ((l.map (·.d)).take m) d = true := by
  unfold goneT
  rw [if_neg ho]
  simp only [Bool.or_eq_true, List.any_eq_true, Bool.and_eq_true, decide_eq_true_eq]
  refine .inr ⟨l[j].d, ?_, h⟩
  rw [List.mem_iff_getElem]
  exact ⟨j, by rw [List.length_take, List.length_map]; omega, by rw [List.getElem_take, List.getElem_map]⟩

set_option maxHeartbeats 4000000 in
theorem refGone_calls (own next : Int) (seen : List Int) (sv : Value) (la : Option Addr) (ln lc : Nat) (v : Value) (ql : List Dv) (k : Nat) (w : World) (hn : IsNums .i64 w sv seen) (hr : RdD w v ql) (hv : ∀ q ∈ ql, ∃ a n c, q.vd = .slice a n c) (hk : k < ql.length) (hs : SeenOk seen) (hl : ql.length ≤ 1048576) :
    Calls Try.prog 40 #[.agg #[.int .i64 own, .int .i64 next, sv, .slice la ln lc], v, .int .i64 (k : Int)] w fun e w' => e = .returned (.bool (goneT own seen ((ql.map (·.d)).take k) ql[k].d)) ∧ RowKit.Below w.heap.size w w' := by
  obtain ⟨c, hc⟩ : ∃ c, goneT own seen ((ql.map (·.d)).take k) ql[k].d = c := ⟨_, rfl⟩
  rw [hc]
  obtain ⟨b, o, cap, rfl, hcap⟩ := hr.at0 (by omega)
  obtain ⟨c0, c1, c2, c3, c4, c5⟩ := hr.six k hk
  obtain ⟨da, dn, dc, hvd⟩ := hv ql[k] (List.getElem_mem hk)
  have hsl := hs.len
  obtain ⟨sa, sc, rfl⟩ := hn.form
  obtain ⟨⟨⟨ticket, ⟨site, seq, dep, key, val⟩⟩, vd⟩, hx⟩ : ∃ x, ql[k] = x := ⟨_, rfl⟩
  rw [hx] at c0 c1 c2 c3 c4 c5 hc hvd
  dsimp only at c0 c1 c2 c3 c4 c5 hc hvd
  subst hvd
  have hbw := World.block_lt_of_cell? w _ c0
  have hB0 := box_below w (.cells #[.int .i64 own, .int .i64 next, .slice sa seen.length sc, .slice la ln lc] 34)
  have h0 := World.alloc_heap_new w (.cells #[.int .i64 own, .int .i64 next, .slice sa seen.length sc, .slice la ln lc] 34)
  have hkI : (k : Int) < (ql.length : Int) := by omega
  replace c0 := (hB0.cell (p := ⟨b, o + k * 6, none⟩) hbw).trans c0
  replace c1 := (hB0.cell (p := ⟨b, o + k * 6 + 1, none⟩) hbw).trans c1
  replace c2 := (hB0.cell (p := ⟨b, o + k * 6 + 2, none⟩) hbw).trans c2
  replace c3 := (hB0.cell (p := ⟨b, o + k * 6 + 3, none⟩) hbw).trans c3
  replace c4 := (hB0.cell (p := ⟨b, o + k * 6 + 4, none⟩) hbw).trans c4
  replace c5 := (hB0.cell (p := ⟨b, o + k * 6 + 5, none⟩) hbw).trans c5
  have Hr := hide hr
  have Hc := hide hc
  have Hx := hide hx
  have Hn := hide (hn.below hB0)
  have HB := hide hB0
  have H0 := hide h0
  clear hr hc hx hn hB0 h0 hs
  go_enter Try.func40, Try.ntmps40
  go_upto_region 1 with fail
  generalize w.alloc (.cells #[.int .i64 own, .int .i64 next, .slice sa seen.length sc, .slice la ln lc] 34) = W0 at *
  have hB1 := box_below W0 (.cells #[.int .i64 site, .int .i64 seq, .slice da dn dc, .string key, .string val] 44)
  have h1 := World.alloc_heap_new W0 (.cells #[.int .i64 site, .int .i64 seq, .slice da dn dc, .string key, .string val] 44)
  go_upto_region 2 with fail
  have hB2 := hide (HB.out.trans (hB1.mono HB.out.size))
  have Hn1 := hide (Hn.out.below hB1)
  have H01 := hide (keepB H0.out hB1)
  have H1 := hide h1
  clear c0 c1 c2 c3 c4 c5 hB1 h1 HB Hn H0
  generalize W0.alloc (.cells #[.int .i64 site, .int .i64 seq, .slice da dn dc, .string key, .string val] 44) = W1 at *
  generalize hrb : W0.heap.size = rb at *
  obtain ⟨x0, x1, x2, x3, -⟩ := cells4T H01.out
  obtain ⟨r0, r1, r2, r3, r4⟩ := cells5T H1.out
  clear hrb
  by_cases hso : site = own
  · have hc1 := Hc.out
    unfold goneT at hc1
    rw [if_pos hso] at hc1
    subst hso
    by_cases hq : seq = 0
    · subst hq
      go_wp2_with fail
      go_ret
      exact ⟨by rw [← hc1]; simp, hB2.out⟩
    · have hqb : (seq != 0) = true := by simpa using hq
      go_wp2_with fail
      go_ret
      exact ⟨by rw [← hc1]; simp [hq], hB2.out⟩
  have hsb : (site == own) = false := by simpa using hso
  have CG := hide (fun nq => refGet_calls _ seen site (W1.drewN nq) (Hn1.out.below (drewsB W1 nq)) (by omega))
  obtain ⟨g, hg⟩ : ∃ g, geti seen site = g := ⟨_, rfl⟩
  rw [hg] at CG
  go_upto_region 4 with fail
  by_cases hle : seq ≤ g
  · have Hc1 : Hid (c = true) := hide (by rw [← Hc.out]; unfold goneT; rw [if_neg (show ¬ _ from hso)]; dsimp only; rw [hg, decide_eq_true hle]; rfl)
    go_quiet (first | (go_at_call 22; refine Calls.quiet_of_same (CG.out _)))
    go_wp2_with fail
    go_ret
    exact ⟨by rw [Hc1.out]; rfl, hB2.out.trans ((drewsB W1 nq).mono hB2.out.size)⟩
  have hleI : ¬ seq ≤ g := hle
  go_quiet (first | (go_at_call 22; refine Calls.quiet_of_same (CG.out _)))
  have hd := drewsB W1 nq
  have H02 := hide (keepB H1.out hd)
  have HB3 := hide (hB2.out.trans (hd.mono hB2.out.size))
  have hrlt := ltB H02.out
  clear x0 x1 x2 x3 r0 r1 r2 r3 r4 CG H1 H01 hB2 hd Hn1
  generalize W1.drewN nq = W2 at *
  go_wp2_with fail
  go_loopw [8] (fun i wr => ∃ m : Nat, m ≤ k ∧ i = .int .i64 (m : Int) ∧ noneT ql m ⟨ticket, ⟨site, seq, dep, key, val⟩⟩ ∧ RowKit.Below W2.heap.size W2 wr) (fun i _ => k - (intOf i).toNat)
  case atStart => exact ⟨0, Nat.zero_le _, rfl, fun j _ h => by omega, RowKit.Below.refl _ _⟩
  case round =>
    obtain ⟨m, hm, rfl, hno, hb⟩ := hrel
    have Hno := hide hno
    have Hb := hide hb
    obtain ⟨r0, r1, r2, r3, r4⟩ := cells5T (keepB H02.out hb)
    by_cases h1 : m < k
    · have h1I : (m : Int) < (k : Int) := by omega
      have h1q : m < ql.length := by omega
      have h1J : (m : Int) < (ql.length : Int) := by omega
      obtain ⟨d0, d1, d2, d3, d4, d5⟩ := (Hr.out.below (HB3.out.trans (hb.mono HB3.out.size))).six m h1q
      have hstep : ∀ x : DrD, ql[m].d = x → ¬ (x.r.site = site ∧ x.r.seq = seq) → noneT ql (m + 1) ⟨ticket, ⟨site, seq, dep, key, val⟩⟩ := fun x ex g j hj hjm => by
        by_cases e : j = m
        · subst e
          rw [ex]
          exact g
        · exact Hno.out j hj (by omega)
      have hyes : ∀ x : DrD, ql[m].d = x → (x.r.site = site ∧ x.r.seq = seq) → c = true := fun x ex g => by
        rw [← Hc.out]
        exact gone_some hso m h1q h1 (by rw [ex]; exact g)
      obtain ⟨⟨⟨ticket', ⟨site', seq', dep', key', val'⟩⟩, vd'⟩, hy⟩ : ∃ x, ql[m] = x := ⟨_, rfl⟩
      rw [hy] at d0 d1 d2 d3 d4 d5
      dsimp only at d0 d1 d2 d3 d4 d5
      have Hstep := hide (hstep _ (congrArg Dv.d hy))
      have Hyes := hide (hyes _ (congrArg Dv.d hy))
      clear hstep hyes hy hno hb
      by_cases hs2 : site' = site
      · subst hs2
        by_cases hq2 : seq' = seq
        · subst hq2
          have Hc1 : Hid (c = true) := hide (Hyes.out ⟨rfl, rfl⟩)
          go_upto_region 9 with fail
          go_quiet (fail)
          go_wp2_with fail
          go_ret
          exact ⟨by rw [Hc1.out]; rfl, HB3.out.trans ((Hb.out.trans ((drewsB wr nq).mono Hb.out.size)).mono HB3.out.size)⟩
        · have hqb : (seq' == seq) = false := by simpa using hq2
          have Hs := hide (Hstep.out fun h => hq2 h.2)
          clear hq2
          go_upto_region 9 with fail
          go_quiet (fail)
          go_wp2_with fail
          exact ⟨⟨m + 1, by omega, by go_num, Hs.out, Hb.out.trans ((drewsB wr nq).mono Hb.out.size)⟩, by simp [intOf]; omega⟩
      · have hsb2 : (site' == site) = false := by simpa using hs2
        have Hs := hide (Hstep.out fun h => hs2 h.1)
        clear hs2
        go_upto_region 9 with fail
        go_quiet (fail)
        go_wp2_with fail
        exact ⟨⟨m + 1, by omega, by go_num, Hs.out, Hb.out.trans ((drewsB wr nq).mono Hb.out.size)⟩, by simp [intOf]; omega⟩
    · have hkm : m = k := by omega
      subst hkm
      have Hc1 : Hid (c = false) := hide (by rw [← Hc.out]; exact gone_none hso (by dsimp only; rw [hg]; omega) Hno.out (by omega))
      go_wp2_with fail
      go_ret
      exact ⟨by rw [Hc1.out]; rfl, HB3.out.trans (Hb.out.mono HB3.out.size)⟩

end Go.Proofs.Ytdkpbfigjdmfpaa

/- Plain laws on vectors in words: what is told is read again. Own work; no statement. -/
set_option linter.unusedSimpArgs false
set_option linter.unusedVariables false
namespace Go.Proofs.Ytdkpbfigjdmfpaa

theorem digit_val (d : Nat) (h : d < 10) : (UInt8.ofNat (48 + d)).toNat = 48 + d := by
  rw [UInt8.toNat_ofNat']; omega
theorem decDigits_all (u : Nat) : ∀ c ∈ Lib.decDigits u, digB c = true := by
  induction u using Nat.strongRecOn with
  | _ u ih =>
    rw [Lib.decDigits]
    split
    · intro c hc
      rw [List.mem_singleton] at hc
      subst hc
      unfold digB
      rw [digit_val u (by omega)]
      simp; omega
    · intro c hc
      rcases List.mem_append.1 hc with h | h
      · exact ih (u / 10) (by omega) c h
      · rw [List.mem_singleton] at h
        subst h
        unfold digB
        rw [digit_val (u % 10) (by omega)]
        simp; omega
theorem decDigits_ne (u : Nat) : Lib.decDigits u ≠ [] := by
  rw [Lib.decDigits]; split <;> simp
theorem decDigits_head (u : Nat) : u ≠ 0 → (Lib.decDigits u).head? ≠ some 48 := by
  induction u using Nat.strongRecOn with
  | _ u ih =>
    intro h0
    rw [Lib.decDigits]
    split
    · rename_i h
      intro e
      have e2 : UInt8.ofNat (48 + u) = 48 := by simpa using e
      have e3 := congrArg UInt8.toNat e2
      rw [digit_val u h] at e3
      have e4 : (48 : UInt8).toNat = 48 := rfl
      omega
    · have h1 := ih (u / 10) (by omega) (by omega)
      cases h : Lib.decDigits (u / 10) with
      | nil => exact absurd h (decDigits_ne _)
      | cons c r => rw [h] at h1; exact h1
theorem decOk_digits (u : Nat) : decOk (Lib.decDigits u) = true := by
  unfold decOk
  have h1 : (Lib.decDigits u).isEmpty = false := by
    cases h : Lib.decDigits u with
    | nil => exact absurd h (decDigits_ne u)
    | cons _ _ => rfl
  have h2 : (Lib.decDigits u).all digB = true := List.all_eq_true.2 (decDigits_all u)
  rw [h1, h2]
  by_cases h0 : u = 0
  · subst h0
    have : Lib.decDigits 0 = [48] := by rw [Lib.decDigits]; rfl
    rw [this]; rfl
  · have := decDigits_head u h0
    have h3 : ((Lib.decDigits u).head? == some 48) = false := by simpa using this
    rw [h3]; simp
theorem decTo_digits (u : Nat) : decTo (Lib.decDigits u) 0 = min (u : Int) 1048577 := by
  induction u using Nat.strongRecOn with
  | _ u ih =>
    rw [Lib.decDigits]
    split
    · rename_i h
      simp only [decTo]
      rw [digit_val u h]
      omega
    · rw [decTo_snoc, ih (u / 10) (by omega), digit_val (u % 10) (by omega)]
      omega
theorem itoa_nat (x : Int) (h : 0 ≤ x) : Lib.itoa x = Lib.decDigits x.toNat := by unfold Lib.itoa; rw [if_neg (by omega)]
theorem no_blank (u : Nat) : ∀ c ∈ Lib.decDigits u, c ≠ 32 := by
  intro c hc e
  have := decDigits_all u c hc
  subst e
  revert this
  decide

theorem splitL_word : ∀ (l : List UInt8), (∀ c ∈ l, c ≠ 32) → splitL l = [l]
  | [], _ => rfl
  | c :: r, h => by
    simp only [splitL]
    rw [if_neg (h c (by simp)), splitL_word r (fun d hd => h d (by simp [hd]))]
theorem splitL_append : ∀ (a b : List UInt8), splitL (a ++ 32 :: b) = splitL a ++ splitL b
  | [], b => by simp [splitL]
  | c :: r, b => by
    simp only [List.cons_append, splitL]
    rw [splitL_append r b]
    split
    · simp
    · cases h : splitL r with
      | nil => exact absurd h (splitL_ne r)
      | cons x xs => simp

/-- The numbers are such as a vector may have. -/
def InS (l : List Int) : Prop := ∀ x ∈ l, 0 ≤ x ∧ x ≤ 1048576
theorem getD_inS {l : List Int} (h : InS l) (k : Nat) : 0 ≤ l.getD k 0 ∧ l.getD k 0 ≤ 1048576 := by
  by_cases hk : k < l.length
  · exact h _ (getD_mem l k hk)
  · rw [getD_out l k (by omega)]; omega
def wordsTo (l : List Int) (k : Nat) : List (List UInt8) := (List.range k).map fun i => Lib.itoa (l.getD i 0)
theorem wordsTo_succ (l : List Int) (k : Nat) : wordsTo l (k + 1) = wordsTo l k ++ [Lib.itoa (l.getD k 0)] := by simp [wordsTo, List.range_succ]
theorem split_nums {l : List Int} (h : InS l) : ∀ k, splitL (numsTo l (k + 1)) = wordsTo l (k + 1)
  | 0 => by
    simp only [numsTo]
    rw [itoa_nat _ (getD_inS h 0).1]
    simp only [if_true, List.nil_append]
    rw [splitL_word _ (no_blank _), wordsTo_succ, itoa_nat _ (getD_inS h 0).1]
    rfl
  | k + 1 => by
    rw [numsTo, if_neg (by omega)]
    simp only [List.cons_append, List.nil_append]
    rw [splitL_append, split_nums h k, wordsTo_succ l (k + 1), itoa_nat _ (getD_inS h (k + 1)).1, splitL_word _ (no_blank _)]
theorem words_ok {l : List Int} (h : InS l) (k : Nat) : (wordsTo l k).all decOk = true := by
  rw [List.all_eq_true]
  intro x hx
  obtain ⟨i, -, rfl⟩ := List.mem_map.1 hx
  rw [itoa_nat _ (getD_inS h i).1]
  exact decOk_digits _
theorem dec_itoa {x : Int} (h0 : 0 ≤ x) (h1 : x ≤ 1048577) : decTo (Lib.itoa x) 0 = x := by
  rw [itoa_nat _ h0, decTo_digits]; omega
theorem st_words {l : List Int} (h : InS l) (h8 : l.length ≤ 8) : ∀ k, k < l.length → stOf (wordsTo l (k + 1)) = (l.take (k + 1), l.getD k 0, false)
  | 0, hk => by
    have hx := getD_inS h 0
    rw [wordsTo_succ, stOf_snoc, take_snoc_getD l 0 hk]
    simp only [wordsTo, List.range_zero, List.map_nil, stOf, List.foldl_nil, stepW, dec_itoa hx.1 (by omega : l.getD 0 0 ≤ 1048577)]
    rw [if_neg (by rintro (h | h); · omega
                   · simp at h)]
    simp
  | k + 1, hk => by
    have hx := getD_inS h (k + 1)
    rw [wordsTo_succ, stOf_snoc, st_words h h8 k (by omega), take_snoc_getD l (k + 1) hk]
    simp only [stepW, dec_itoa hx.1 (by omega : l.getD (k + 1) 0 ≤ 1048577)]
    rw [if_neg (by rw [List.length_take]; omega)]

theorem writtenL_last (l : List Int) : ∀ k, writtenL l = k + 1 → l.getD k 0 ≠ 0 := by
  obtain ⟨r, rfl⟩ : ∃ r : List Int, l = r.reverse := ⟨l.reverse, by simp⟩
  induction r with
  | nil => intro k h; simp [writtenL] at h
  | cons x r ih =>
    intro k h
    rw [List.reverse_cons] at h ⊢
    generalize r.reverse = l at ih h ⊢
    by_cases hx : x = 0
    · subst hx
      rw [writtenL_snoc_zero] at h
      have hl := writtenL_le l
      have := ih k h
      rw [List.getD, List.getElem?_append_left (by omega)]
      exact this
    · rw [writtenL_snoc l x hx] at h
      obtain rfl : k = l.length := by omega
      rw [List.getD, List.getElem?_append_right (Nat.le_refl _)]
      simpa using hx
theorem writtenL_past (l : List Int) : ∀ i, writtenL l ≤ i → l.getD i 0 = 0 := by
  obtain ⟨r, rfl⟩ : ∃ r : List Int, l = r.reverse := ⟨l.reverse, by simp⟩
  induction r with
  | nil => intro i _; exact getD_out [] i (by simp)
  | cons x r ih =>
    intro i h
    rw [List.reverse_cons] at h ⊢
    generalize r.reverse = l at ih h ⊢
    by_cases hx : x = 0
    · subst hx
      rw [writtenL_snoc_zero] at h
      by_cases hi : i < l.length
      · rw [List.getD, List.getElem?_append_left hi]; exact ih i h
      · rw [List.getD, List.getElem?_append_right (by omega)]
        by_cases h2 : i - l.length = 0
        · rw [h2]; rfl
        · rw [List.getElem?_eq_none (by simp; omega)]; rfl
    · rw [writtenL_snoc l x hx] at h
      exact getD_out _ i (by simp; omega)

theorem inner_text (x : List UInt8) : bracketB (91 :: (x ++ [93])) = true ∧ innerL (91 :: (x ++ [93])) = x := by
  have h1 : Lib.hasPrefix (91 :: (x ++ [93])) [91] = true := by simp [Lib.hasPrefix]
  have h2 : Lib.trimPrefix (91 :: (x ++ [93])) [91] = x ++ [93] := by unfold Lib.trimPrefix; rw [if_pos h1]; rfl
  have h3 : Lib.hasSuffix (x ++ [93]) [93] = true := by unfold Lib.hasSuffix; rw [List.isSuffixOf_iff_suffix]; exact List.suffix_append _ _
  refine ⟨by unfold bracketB; rw [h1, h2, h3]; rfl, ?_⟩
  unfold innerL
  rw [h2]
  unfold Lib.trimSuffix
  rw [if_pos h3]
  simp
theorem numsTo_ne (l : List Int) (h : InS l) (k : Nat) : numsTo l (k + 1) ≠ [] := by
  rw [numsTo, itoa_nat _ (getD_inS h k).1]
  intro e
  have := (List.append_eq_nil_iff.1 (List.append_eq_nil_iff.1 e).2).2
  exact decDigits_ne _ this
/-- What is told of a vector that may be is read again, down to its last number that is not 0. -/
theorem parse_text (l : List Int) (h : InS l) (h8 : l.length ≤ 8) : parseL (textL l) = (l.take (writtenL l), 0) := by
  obtain ⟨hb, hi⟩ := inner_text (numsTo l (writtenL l))
  have hle := writtenL_le l
  have hlast := writtenL_last l
  unfold parseL textL
  rw [hb, hi, if_pos rfl]
  cases hw : writtenL l with
  | zero => simp [numsTo]
  | succ k =>
    rw [if_neg (numsTo_ne l h k), split_nums h k]
    unfold parseN
    rw [words_ok h, if_pos rfl, st_words h h8 k (by omega)]
    rw [if_neg (hlast k hw), if_neg (by simp)]
theorem same_written (l : List Int) : everyB eqB l (l.take (writtenL l)) = true := by
  rw [same_iff]
  intro i
  by_cases hi : i < writtenL l
  · rw [List.getD, List.getD, List.getElem?_take, if_pos hi]
  · rw [writtenL_past l i (by omega), getD_out _ i (by rw [List.length_take]; omega)]
theorem check_ok (l : List Int) (h : InS l) (h8 : l.length ≤ 8) : checkL l 8 = 0 := by
  unfold checkL
  rw [if_neg (by omega), if_neg (by omega)]
  clear h8
  induction l with
  | nil => rfl
  | cons x r ih =>
    have := h x (by simp)
    simp only [checkN]
    rw [if_neg (by omega), if_neg (by omega)]
    exact ih (fun y hy => h y (by simp [hy]))
theorem inS_take (l : List Int) (h : InS l) (k : Nat) : InS (l.take k) := fun x hx => h x (List.mem_of_mem_take hx)

end Go.Proofs.Ytdkpbfigjdmfpaa

/- The walks of the reference's Decimal, VecText, With. Own work; no statement. -/
set_option linter.unusedSimpArgs false
set_option linter.unusedVariables false
namespace Go.Proofs.Ytdkpbfigjdmfpaa
open Go.RowKit Go.Shelf

def headD (u : Nat) : List UInt8 := if u < 10 then [] else Lib.decDigits (u / 10)
theorem digits_head (u : Nat) : Lib.decDigits u = headD u ++ [UInt8.ofNat (48 + u % 10)] := by
  rw [Lib.decDigits]
  unfold headD
  split
  · rename_i h
    rw [Nat.mod_eq_of_lt h]; rfl
  · rfl
theorem cons_bytes (b : UInt8) (S : List UInt8) : (⟨#[b]⟩ : ByteArray) ++ ⟨S.toArray⟩ = ⟨(b :: S).toArray⟩ := by
  apply ByteArray.ext
  simp [ByteArray.data_append]
theorem conv_one (w : World) (b : UInt8) (c : Int) (hc : (b.toNat : Int) = c) : (convert 62 9 (.slice (some ⟨w.heap.size, 0, none⟩) 1 1)).run Try.prog (w.alloc (.cells #[.int .u8 c] 5)) = .ok (.string ⟨#[b]⟩) (w.alloc (.cells #[.int .u8 c] 5)) := by
  subst hc
  have h : (w.alloc (.cells #[.int .u8 (b.toNat : Int)] 5)).ownsRow 0 5 1 (.slice (some ⟨w.heap.size, 0, none⟩) 1 1) 1 (Lib.byteCells [b]) := World.ownsRow_lit _ #[.int .u8 (b.toNat : Int)] 1 (Nat.zero_le _) (by unfold maxLen; omega) rfl
  exact conv_row h Try.underlying62 Try.underlying5 Try.underlying9

def lenOf' : Value → Nat
  | .slice _ n _ => n
  | _ => 0
theorem stretchL_succ (l : List Int) (k : Nat) (h : l.length ≤ k) : stretchL l (k + 1) = stretchL l k ++ [0] := by
  unfold stretchL
  rw [show k + 1 - l.length = (k - l.length) + 1 by omega, List.replicate_succ', List.append_assoc]

set_option maxRecDepth 100000 in
set_option maxHeartbeats 2000000 in
theorem refWith_calls (v : Value) (l : List Int) (i n : Int) (w : World) (hv : IsNums .i64 w v l) (hl : l.length ≤ 1048576) :
    Calls Try.prog 24 #[v, .int .i64 i, .int .i64 n] w fun e w' => ∃ v', e = .returned v' ∧ IsNums .i64 w' v' (withL l i n) ∧ Below w.heap.size w w' := by
  obtain ⟨i0, hi, hz0, hz1, hz2⟩ := info_parts Try.info3
  have hrow0 : (w.alloc (.cells #[] 3)).ownsRow w.heap.size 3 1 (.slice (some ⟨w.heap.size, 0, none⟩) 0 0) 0 [] := World.ownsRow_lit w #[] 0 (Nat.le_refl _) (by unfold maxLen; omega) rfl
  rcases hv.cases with ⟨rfl, a1, cap, rfl⟩ | ⟨b, o, capa, rfl, -, hcap, hb, hcell⟩
  · cases a1 with
    | none =>
      by_cases h : i < 0 ∨ 63 < i
      · have E := hide (show withL [] i n = [] by rw [withL, if_pos h])
        rcases h with h | h
        · go_enter Try.func24, Try.ntmps24
          go_wp2_with fail
          go_ret
          exact ⟨_, rfl, by rw [E.out]; exact IsNums.nil _ _ _ _, (alloc_below w _)⟩
        · have h0 : ¬ i < 0 := by omega
          go_enter Try.func24, Try.ntmps24
          go_wp2_with fail
          go_ret
          exact ⟨_, rfl, by rw [E.out]; exact IsNums.nil _ _ _ _, (alloc_below w _)⟩
      · have e : withL [] i n = (stretchL [] (max ([] : List Int).length (i.toNat + 1))).set i.toNat n := by rw [withL, if_neg h]
        obtain ⟨q, rfl⟩ := Int.eq_ofNat_of_zero_le (show 0 ≤ i by omega)
        rw [Int.toNat_natCast] at e
        have E := hide e
        clear e
        have h0 : ¬ (q : Int) < 0 := by omega
        have h1 : ¬ 63 < (q : Int) := by omega
        clear h
        obtain ⟨l, hl0⟩ : ∃ l : List Int, l = [] := ⟨_, rfl⟩
        replace E := hide (show withL [] (q : Int) n = (stretchL l (max l.length (q + 1))).set q n by rw [hl0]; exact E.out)
        have hl00 : l.length = 0 := by rw [hl0]; rfl
        have hrow1 : (w.alloc (.cells #[] 3)).ownsRow w.heap.size 3 1 (.slice (some ⟨w.heap.size, 0, none⟩) 0 0) l.length (l.map (Value.int .i64)) := by rw [hl0]; exact hrow0
        clear hl0
        go_enter Try.func24, Try.ntmps24
        go_wp2_with fail
        go_loopw [7] (fun v wr => ∃ k : Nat, l.length ≤ k ∧ k ≤ max l.length (q + 1) ∧ wr.ownsRow w.heap.size 3 1 v k ((stretchL l k).map (Value.int .i64)) ∧ Below w.heap.size w wr) (fun v _ => q + 1 - lenOf' v)
        case atStart => exact ⟨l.length, Nat.le_refl _, by omega, by rw [stretchL_self]; exact hrow1, (alloc_below w _)⟩
        case round =>
          obtain ⟨k, hk1, hk2, hown, hB⟩ := hrel
          have hbs := hB.size
          by_cases hle : (k : Int) ≤ (q : Int)
          · obtain ⟨pv, cv, rfl⟩ := ownsRow_slice hown
            go_wp2_with (at_builtin; refine wpList_append_own _ rfl _ _ 22 rfl w.heap.size 3 i0 (.int .i64 0) 1 8 Try.underlying22 hi hz0 hz1 hz2 rfl (by decide) _ _ _ rfl (hown.alloc _) ⟨wr.heap.size, 0, none⟩ 1 1 [.int .i64 0] rfl rfl (cell_one_new _ _ _) (by intro u hu; simp at hu; subst hu; rfl) (by unfold maxLen; omega) (by omega) (by simp; omega) ?_; intro v2 w2 hown2 hgrow2 _)
            obtain ⟨pv2, cv2, rfl⟩ := ownsRow_slice hown2
            refine ⟨⟨k + 1, by omega, by omega, ?_, (hB.alloc hB.size _).grown hgrow2 (by simp; omega) (fun j hj => (hown.lt j hj).1)⟩, by simp [lenOf']; omega⟩
            rw [stretchL_succ l k hk1, List.map_append]
            exact hown2
          · have hkm : k = max l.length (q + 1) := by omega
            obtain ⟨k0, rfl⟩ : ∃ k0, k = k0 + 1 := ⟨k - 1, by omega⟩
            obtain rfl : q = k0 := by omega
            obtain ⟨gg, cv, rfl⟩ := ownsRow_succ hown
            have hc := hown.cellAt q (by omega)
            have hf := hown.frozenAt q
            have hlq : (q : Int) < (q : Int) + 1 := by omega
            obtain ⟨hown2, hg2⟩ := hown.stored q (.int .i64 n)
            rw [List.getElem?_map, List.getElem?_eq_getElem (by rw [stretchL_length _ _ hk1]; omega), Option.map_some] at hc
            generalize (stretchL l (q + 1))[q]'(by rw [stretchL_length _ _ hk1]; omega) = old at hc
            have hlt := (hown.lt gg rfl).1
            have HO := hide hown2
            replace hkm := hide hkm
            clear hown hown2 hg2
            go_wp2_with fail
            go_ret
            refine ⟨_, rfl, ?_, hB.setCell (p := ⟨gg, q, none⟩) hlt _⟩
            have := HO.out
            rw [← List.map_set] at this
            rw [E.out, ← hkm.out]
            exact IsNums.of_row this
    | some ad =>
      by_cases h : i < 0 ∨ 63 < i
      · have E := hide (show withL [] i n = [] by rw [withL, if_pos h])
        rcases h with h | h
        · go_enter Try.func24, Try.ntmps24
          go_wp2_with fail
          go_ret
          exact ⟨_, rfl, by rw [E.out]; exact IsNums.nil _ _ _ _, (alloc_below w _)⟩
        · have h0 : ¬ i < 0 := by omega
          go_enter Try.func24, Try.ntmps24
          go_wp2_with fail
          go_ret
          exact ⟨_, rfl, by rw [E.out]; exact IsNums.nil _ _ _ _, (alloc_below w _)⟩
      · have e : withL [] i n = (stretchL [] (max ([] : List Int).length (i.toNat + 1))).set i.toNat n := by rw [withL, if_neg h]
        obtain ⟨q, rfl⟩ := Int.eq_ofNat_of_zero_le (show 0 ≤ i by omega)
        rw [Int.toNat_natCast] at e
        have E := hide e
        clear e
        have h0 : ¬ (q : Int) < 0 := by omega
        have h1 : ¬ 63 < (q : Int) := by omega
        clear h
        obtain ⟨l, hl0⟩ : ∃ l : List Int, l = [] := ⟨_, rfl⟩
        replace E := hide (show withL [] (q : Int) n = (stretchL l (max l.length (q + 1))).set q n by rw [hl0]; exact E.out)
        have hl00 : l.length = 0 := by rw [hl0]; rfl
        have hrow1 : (w.alloc (.cells #[] 3)).ownsRow w.heap.size 3 1 (.slice (some ⟨w.heap.size, 0, none⟩) 0 0) l.length (l.map (Value.int .i64)) := by rw [hl0]; exact hrow0
        clear hl0
        go_enter Try.func24, Try.ntmps24
        go_wp2_with fail
        go_loopw [7] (fun v wr => ∃ k : Nat, l.length ≤ k ∧ k ≤ max l.length (q + 1) ∧ wr.ownsRow w.heap.size 3 1 v k ((stretchL l k).map (Value.int .i64)) ∧ Below w.heap.size w wr) (fun v _ => q + 1 - lenOf' v)
        case atStart => exact ⟨l.length, Nat.le_refl _, by omega, by rw [stretchL_self]; exact hrow1, (alloc_below w _)⟩
        case round =>
          obtain ⟨k, hk1, hk2, hown, hB⟩ := hrel
          have hbs := hB.size
          by_cases hle : (k : Int) ≤ (q : Int)
          · obtain ⟨pv, cv, rfl⟩ := ownsRow_slice hown
            go_wp2_with (at_builtin; refine wpList_append_own _ rfl _ _ 22 rfl w.heap.size 3 i0 (.int .i64 0) 1 8 Try.underlying22 hi hz0 hz1 hz2 rfl (by decide) _ _ _ rfl (hown.alloc _) ⟨wr.heap.size, 0, none⟩ 1 1 [.int .i64 0] rfl rfl (cell_one_new _ _ _) (by intro u hu; simp at hu; subst hu; rfl) (by unfold maxLen; omega) (by omega) (by simp; omega) ?_; intro v2 w2 hown2 hgrow2 _)
            obtain ⟨pv2, cv2, rfl⟩ := ownsRow_slice hown2
            refine ⟨⟨k + 1, by omega, by omega, ?_, (hB.alloc hB.size _).grown hgrow2 (by simp; omega) (fun j hj => (hown.lt j hj).1)⟩, by simp [lenOf']; omega⟩
            rw [stretchL_succ l k hk1, List.map_append]
            exact hown2
          · have hkm : k = max l.length (q + 1) := by omega
            obtain ⟨k0, rfl⟩ : ∃ k0, k = k0 + 1 := ⟨k - 1, by omega⟩
            obtain rfl : q = k0 := by omega
            obtain ⟨gg, cv, rfl⟩ := ownsRow_succ hown
            have hc := hown.cellAt q (by omega)
            have hf := hown.frozenAt q
            have hlq : (q : Int) < (q : Int) + 1 := by omega
            obtain ⟨hown2, hg2⟩ := hown.stored q (.int .i64 n)
            rw [List.getElem?_map, List.getElem?_eq_getElem (by rw [stretchL_length _ _ hk1]; omega), Option.map_some] at hc
            generalize (stretchL l (q + 1))[q]'(by rw [stretchL_length _ _ hk1]; omega) = old at hc
            have hlt := (hown.lt gg rfl).1
            have HO := hide hown2
            replace hkm := hide hkm
            clear hown hown2 hg2
            go_wp2_with fail
            go_ret
            refine ⟨_, rfl, ?_, hB.setCell (p := ⟨gg, q, none⟩) hlt _⟩
            have := HO.out
            rw [← List.map_set] at this
            rw [E.out, ← hkm.out]
            exact IsNums.of_row this
  · have hnews : ∀ j u, (l.map (Value.int .i64))[j]? = some u → (w.alloc (.cells #[] 3)).cell? ((⟨b, o, none⟩ : Addr).add j) = some u := by
      intro j u hu
      rw [List.getElem?_map] at hu
      by_cases hj : j < l.length
      · rw [List.getElem?_eq_getElem hj, Option.map_some] at hu
        cases hu
        rw [Lib.add_plain]
        rw [World.cell?_alloc_past _ _ _ hb, hcell j hj, getD_in l j hj]
      · rw [List.getElem?_eq_none (by omega)] at hu
        simp at hu
    clear hcell hv
    by_cases h : i < 0 ∨ 63 < i
    · have E := hide (show withL l i n = l by rw [withL, if_pos h])
      rcases h with h | h
      · go_enter Try.func24, Try.ntmps24
        go_wp2_with (at_builtin; refine wpList_append_own _ rfl _ _ 22 rfl w.heap.size 3 i0 (.int .i64 0) 1 8 Try.underlying22 hi hz0 hz1 hz2 rfl (by decide) _ _ _ rfl hrow0 ⟨b, o, none⟩ l.length capa (l.map (Value.int .i64)) rfl (by simp) hnews (by intro u hu; simp at hu; obtain ⟨x, -, rfl⟩ := hu; rfl) (by unfold maxLen; omega) (by omega) (by simp) ?_; intro v1 w1 hown1 hgrow1 _; rw [Nat.zero_add, List.nil_append] at hown1; have hB1 : Below w.heap.size w w1 := (alloc_below w _).grown hgrow1 (by simp) (fun j hj => (hrow0.lt j hj).1); clear hgrow1)
        go_ret
        exact ⟨_, rfl, by rw [E.out]; exact IsNums.of_row hown1, hB1⟩
      · have h0 : ¬ i < 0 := by omega
        go_enter Try.func24, Try.ntmps24
        go_wp2_with (at_builtin; refine wpList_append_own _ rfl _ _ 22 rfl w.heap.size 3 i0 (.int .i64 0) 1 8 Try.underlying22 hi hz0 hz1 hz2 rfl (by decide) _ _ _ rfl hrow0 ⟨b, o, none⟩ l.length capa (l.map (Value.int .i64)) rfl (by simp) hnews (by intro u hu; simp at hu; obtain ⟨x, -, rfl⟩ := hu; rfl) (by unfold maxLen; omega) (by omega) (by simp) ?_; intro v1 w1 hown1 hgrow1 _; rw [Nat.zero_add, List.nil_append] at hown1; have hB1 : Below w.heap.size w w1 := (alloc_below w _).grown hgrow1 (by simp) (fun j hj => (hrow0.lt j hj).1); clear hgrow1)
        go_ret
        exact ⟨_, rfl, by rw [E.out]; exact IsNums.of_row hown1, hB1⟩
    · have e : withL l i n = (stretchL l (max (l : List Int).length (i.toNat + 1))).set i.toNat n := by rw [withL, if_neg h]
      obtain ⟨q, rfl⟩ := Int.eq_ofNat_of_zero_le (show 0 ≤ i by omega)
      rw [Int.toNat_natCast] at e
      have E := hide e
      clear e
      have h0 : ¬ (q : Int) < 0 := by omega
      have h1 : ¬ 63 < (q : Int) := by omega
      clear h
      go_enter Try.func24, Try.ntmps24
      go_wp2_with (at_builtin; refine wpList_append_own _ rfl _ _ 22 rfl w.heap.size 3 i0 (.int .i64 0) 1 8 Try.underlying22 hi hz0 hz1 hz2 rfl (by decide) _ _ _ rfl hrow0 ⟨b, o, none⟩ l.length capa (l.map (Value.int .i64)) rfl (by simp) hnews (by intro u hu; simp at hu; obtain ⟨x, -, rfl⟩ := hu; rfl) (by unfold maxLen; omega) (by omega) (by simp) ?_; intro v1 w1 hown1 hgrow1 _; rw [Nat.zero_add, List.nil_append] at hown1; have hB1 : Below w.heap.size w w1 := (alloc_below w _).grown hgrow1 (by simp) (fun j hj => (hrow0.lt j hj).1); clear hgrow1)
      go_loopw [7] (fun v wr => ∃ k : Nat, l.length ≤ k ∧ k ≤ max l.length (q + 1) ∧ wr.ownsRow w.heap.size 3 1 v k ((stretchL l k).map (Value.int .i64)) ∧ Below w.heap.size w wr) (fun v _ => q + 1 - lenOf' v)
      case atStart => exact ⟨l.length, Nat.le_refl _, by omega, by rw [stretchL_self]; exact hown1, hB1⟩
      case round =>
        obtain ⟨k, hk1, hk2, hown, hB⟩ := hrel
        have hbs := hB.size
        by_cases hle : (k : Int) ≤ (q : Int)
        · obtain ⟨pv, cv, rfl⟩ := ownsRow_slice hown
          go_wp2_with (at_builtin; refine wpList_append_own _ rfl _ _ 22 rfl w.heap.size 3 i0 (.int .i64 0) 1 8 Try.underlying22 hi hz0 hz1 hz2 rfl (by decide) _ _ _ rfl (hown.alloc _) ⟨wr.heap.size, 0, none⟩ 1 1 [.int .i64 0] rfl rfl (cell_one_new _ _ _) (by intro u hu; simp at hu; subst hu; rfl) (by unfold maxLen; omega) (by omega) (by simp; omega) ?_; intro v2 w2 hown2 hgrow2 _)
          obtain ⟨pv2, cv2, rfl⟩ := ownsRow_slice hown2
          refine ⟨⟨k + 1, by omega, by omega, ?_, (hB.alloc hB.size _).grown hgrow2 (by simp; omega) (fun j hj => (hown.lt j hj).1)⟩, by simp [lenOf']; omega⟩
          rw [stretchL_succ l k hk1, List.map_append]
          exact hown2
        · have hkm : k = max l.length (q + 1) := by omega
          obtain ⟨k0, rfl⟩ : ∃ k0, k = k0 + 1 := ⟨k - 1, by omega⟩
          obtain ⟨gg, cv, rfl⟩ := ownsRow_succ hown
          have hc := hown.cellAt q (by omega)
          have hf := hown.frozenAt q
          have hlq : (q : Int) < (k0 : Int) + 1 := by omega
          obtain ⟨hown2, hg2⟩ := hown.stored q (.int .i64 n)
          rw [List.getElem?_map, List.getElem?_eq_getElem (by rw [stretchL_length _ _ hk1]; omega), Option.map_some] at hc
          generalize (stretchL l (k0 + 1))[q]'(by rw [stretchL_length _ _ hk1]; omega) = old at hc
          have hlt := (hown.lt gg rfl).1
          have HO := hide hown2
          replace hkm := hide hkm
          clear hown hown2 hg2
          go_wp2_with fail
          go_ret
          refine ⟨_, rfl, ?_, hB.setCell (p := ⟨gg, q, none⟩) hlt _⟩
          have := HO.out
          rw [← List.map_set] at this
          rw [E.out, ← hkm.out]
          exact IsNums.of_row this

end Go.Proofs.Ytdkpbfigjdmfpaa

/- The reference's With answers a row of its own. Own work; no statement. -/
set_option linter.unusedSimpArgs false
set_option linter.unusedVariables false
namespace Go.Proofs.Ytdkpbfigjdmfpaa
open Go.RowKit Go.Shelf Go.Sort

set_option maxRecDepth 100000 in
set_option maxHeartbeats 2000000 in
theorem refWithO_calls (v : Value) (l : List Int) (i n : Int) (w : World) (hv : IsNums .i64 w v l) (hl : l.length ≤ 1048576) :
    Calls Try.prog 24 #[v, .int .i64 i, .int .i64 n] w fun e w' => ∃ v', e = .returned v' ∧ w'.ownsRow w.heap.size 3 1 v' (withL l i n).length ((withL l i n).map (Value.int .i64)) ∧ Below w.heap.size w w' := by
  obtain ⟨i0, hi, hz0, hz1, hz2⟩ := info_parts Try.info3
  have hrow0 : (w.alloc (.cells #[] 3)).ownsRow w.heap.size 3 1 (.slice (some ⟨w.heap.size, 0, none⟩) 0 0) 0 [] := World.ownsRow_lit w #[] 0 (Nat.le_refl _) (by unfold maxLen; omega) rfl
  rcases hv.cases with ⟨rfl, a1, cap, rfl⟩ | ⟨b, o, capa, rfl, -, hcap, hb, hcell⟩
  · cases a1 with
    | none =>
      by_cases h : i < 0 ∨ 63 < i
      · have E := hide (show withL [] i n = [] by rw [withL, if_pos h])
        rcases h with h | h
        · go_enter Try.func24, Try.ntmps24
          go_wp2_with fail
          go_ret
          exact ⟨_, rfl, by rw [E.out]; exact hrow0, (alloc_below w _)⟩
        · have h0 : ¬ i < 0 := by omega
          go_enter Try.func24, Try.ntmps24
          go_wp2_with fail
          go_ret
          exact ⟨_, rfl, by rw [E.out]; exact hrow0, (alloc_below w _)⟩
      · have e : withL [] i n = (stretchL [] (max ([] : List Int).length (i.toNat + 1))).set i.toNat n := by rw [withL, if_neg h]
        obtain ⟨q, rfl⟩ := Int.eq_ofNat_of_zero_le (show 0 ≤ i by omega)
        rw [Int.toNat_natCast] at e
        have E := hide e
        clear e
        have h0 : ¬ (q : Int) < 0 := by omega
        have h1 : ¬ 63 < (q : Int) := by omega
        clear h
        obtain ⟨l, hl0⟩ : ∃ l : List Int, l = [] := ⟨_, rfl⟩
        replace E := hide (show withL [] (q : Int) n = (stretchL l (max l.length (q + 1))).set q n by rw [hl0]; exact E.out)
        have hl00 : l.length = 0 := by rw [hl0]; rfl
        have hrow1 : (w.alloc (.cells #[] 3)).ownsRow w.heap.size 3 1 (.slice (some ⟨w.heap.size, 0, none⟩) 0 0) l.length (l.map (Value.int .i64)) := by rw [hl0]; exact hrow0
        clear hl0
        go_enter Try.func24, Try.ntmps24
        go_wp2_with fail
        go_loopw [7] (fun v wr => ∃ k : Nat, l.length ≤ k ∧ k ≤ max l.length (q + 1) ∧ wr.ownsRow w.heap.size 3 1 v k ((stretchL l k).map (Value.int .i64)) ∧ Below w.heap.size w wr) (fun v _ => q + 1 - lenOf' v)
        case atStart => exact ⟨l.length, Nat.le_refl _, by omega, by rw [stretchL_self]; exact hrow1, (alloc_below w _)⟩
        case round =>
          obtain ⟨k, hk1, hk2, hown, hB⟩ := hrel
          have hbs := hB.size
          by_cases hle : (k : Int) ≤ (q : Int)
          · obtain ⟨pv, cv, rfl⟩ := ownsRow_slice hown
            go_wp2_with (at_builtin; refine wpList_append_own _ rfl _ _ 22 rfl w.heap.size 3 i0 (.int .i64 0) 1 8 Try.underlying22 hi hz0 hz1 hz2 rfl (by decide) _ _ _ rfl (hown.alloc _) ⟨wr.heap.size, 0, none⟩ 1 1 [.int .i64 0] rfl rfl (cell_one_new _ _ _) (by intro u hu; simp at hu; subst hu; rfl) (by unfold maxLen; omega) (by omega) (by simp; omega) ?_; intro v2 w2 hown2 hgrow2 _)
            obtain ⟨pv2, cv2, rfl⟩ := ownsRow_slice hown2
            refine ⟨⟨k + 1, by omega, by omega, ?_, (hB.alloc hB.size _).grown hgrow2 (by simp; omega) (fun j hj => (hown.lt j hj).1)⟩, by simp [lenOf']; omega⟩
            rw [stretchL_succ l k hk1, List.map_append]
            exact hown2
          · have hkm : k = max l.length (q + 1) := by omega
            obtain ⟨k0, rfl⟩ : ∃ k0, k = k0 + 1 := ⟨k - 1, by omega⟩
            obtain rfl : q = k0 := by omega
            obtain ⟨gg, cv, rfl⟩ := ownsRow_succ hown
            have hc := hown.cellAt q (by omega)
            have hf := hown.frozenAt q
            have hlq : (q : Int) < (q : Int) + 1 := by omega
            obtain ⟨hown2, hg2⟩ := hown.stored q (.int .i64 n)
            rw [List.getElem?_map, List.getElem?_eq_getElem (by rw [stretchL_length _ _ hk1]; omega), Option.map_some] at hc
            generalize (stretchL l (q + 1))[q]'(by rw [stretchL_length _ _ hk1]; omega) = old at hc
            have hlt := (hown.lt gg rfl).1
            have HO := hide hown2
            replace hkm := hide hkm
            clear hown hown2 hg2
            go_wp2_with fail
            go_ret
            refine ⟨_, rfl, ?_, hB.setCell (p := ⟨gg, q, none⟩) hlt _⟩
            have := HO.out
            rw [← List.map_set] at this
            rw [E.out, ← hkm.out]
            exact (by rw [List.length_set, stretchL_length _ _ hk1]; exact this)
    | some ad =>
      by_cases h : i < 0 ∨ 63 < i
      · have E := hide (show withL [] i n = [] by rw [withL, if_pos h])
        rcases h with h | h
        · go_enter Try.func24, Try.ntmps24
          go_wp2_with fail
          go_ret
          exact ⟨_, rfl, by rw [E.out]; exact hrow0, (alloc_below w _)⟩
        · have h0 : ¬ i < 0 := by omega
          go_enter Try.func24, Try.ntmps24
          go_wp2_with fail
          go_ret
          exact ⟨_, rfl, by rw [E.out]; exact hrow0, (alloc_below w _)⟩
      · have e : withL [] i n = (stretchL [] (max ([] : List Int).length (i.toNat + 1))).set i.toNat n := by rw [withL, if_neg h]
        obtain ⟨q, rfl⟩ := Int.eq_ofNat_of_zero_le (show 0 ≤ i by omega)
        rw [Int.toNat_natCast] at e
        have E := hide e
        clear e
        have h0 : ¬ (q : Int) < 0 := by omega
        have h1 : ¬ 63 < (q : Int) := by omega
        clear h
        obtain ⟨l, hl0⟩ : ∃ l : List Int, l = [] := ⟨_, rfl⟩
        replace E := hide (show withL [] (q : Int) n = (stretchL l (max l.length (q + 1))).set q n by rw [hl0]; exact E.out)
        have hl00 : l.length = 0 := by rw [hl0]; rfl
        have hrow1 : (w.alloc (.cells #[] 3)).ownsRow w.heap.size 3 1 (.slice (some ⟨w.heap.size, 0, none⟩) 0 0) l.length (l.map (Value.int .i64)) := by rw [hl0]; exact hrow0
        clear hl0
        go_enter Try.func24, Try.ntmps24
        go_wp2_with fail
        go_loopw [7] (fun v wr => ∃ k : Nat, l.length ≤ k ∧ k ≤ max l.length (q + 1) ∧ wr.ownsRow w.heap.size 3 1 v k ((stretchL l k).map (Value.int .i64)) ∧ Below w.heap.size w wr) (fun v _ => q + 1 - lenOf' v)
        case atStart => exact ⟨l.length, Nat.le_refl _, by omega, by rw [stretchL_self]; exact hrow1, (alloc_below w _)⟩
        case round =>
          obtain ⟨k, hk1, hk2, hown, hB⟩ := hrel
          have hbs := hB.size
          by_cases hle : (k : Int) ≤ (q : Int)
          · obtain ⟨pv, cv, rfl⟩ := ownsRow_slice hown
            go_wp2_with (at_builtin; refine wpList_append_own _ rfl _ _ 22 rfl w.heap.size 3 i0 (.int .i64 0) 1 8 Try.underlying22 hi hz0 hz1 hz2 rfl (by decide) _ _ _ rfl (hown.alloc _) ⟨wr.heap.size, 0, none⟩ 1 1 [.int .i64 0] rfl rfl (cell_one_new _ _ _) (by intro u hu; simp at hu; subst hu; rfl) (by unfold maxLen; omega) (by omega) (by simp; omega) ?_; intro v2 w2 hown2 hgrow2 _)
            obtain ⟨pv2, cv2, rfl⟩ := ownsRow_slice hown2
            refine ⟨⟨k + 1, by omega, by omega, ?_, (hB.alloc hB.size _).grown hgrow2 (by simp; omega) (fun j hj => (hown.lt j hj).1)⟩, by simp [lenOf']; omega⟩
            rw [stretchL_succ l k hk1, List.map_append]
            exact hown2
          · have hkm : k = max l.length (q + 1) := by omega
            obtain ⟨k0, rfl⟩ : ∃ k0, k = k0 + 1 := ⟨k - 1, by omega⟩
            obtain rfl : q = k0 := by omega
            obtain ⟨gg, cv, rfl⟩ := ownsRow_succ hown
            have hc := hown.cellAt q (by omega)
            have hf := hown.frozenAt q
            have hlq : (q : Int) < (q : Int) + 1 := by omega
            obtain ⟨hown2, hg2⟩ := hown.stored q (.int .i64 n)
            rw [List.getElem?_map, List.getElem?_eq_getElem (by rw [stretchL_length _ _ hk1]; omega), Option.map_some] at hc
            generalize (stretchL l (q + 1))[q]'(by rw [stretchL_length _ _ hk1]; omega) = old at hc
            have hlt := (hown.lt gg rfl).1
            have HO := hide hown2
            replace hkm := hide hkm
            clear hown hown2 hg2
            go_wp2_with fail
            go_ret
            refine ⟨_, rfl, ?_, hB.setCell (p := ⟨gg, q, none⟩) hlt _⟩
            have := HO.out
            rw [← List.map_set] at this
            rw [E.out, ← hkm.out]
            exact (by rw [List.length_set, stretchL_length _ _ hk1]; exact this)
  · have hnews : ∀ j u, (l.map (Value.int .i64))[j]? = some u → (w.alloc (.cells #[] 3)).cell? ((⟨b, o, none⟩ : Addr).add j) = some u := by
      intro j u hu
      rw [List.getElem?_map] at hu
      by_cases hj : j < l.length
      · rw [List.getElem?_eq_getElem hj, Option.map_some] at hu
        cases hu
        rw [Lib.add_plain]
        rw [World.cell?_alloc_past _ _ _ hb, hcell j hj, getD_in l j hj]
      · rw [List.getElem?_eq_none (by omega)] at hu
        simp at hu
    clear hcell hv
    by_cases h : i < 0 ∨ 63 < i
    · have E := hide (show withL l i n = l by rw [withL, if_pos h])
      rcases h with h | h
      · go_enter Try.func24, Try.ntmps24
        go_wp2_with (at_builtin; refine wpList_append_own _ rfl _ _ 22 rfl w.heap.size 3 i0 (.int .i64 0) 1 8 Try.underlying22 hi hz0 hz1 hz2 rfl (by decide) _ _ _ rfl hrow0 ⟨b, o, none⟩ l.length capa (l.map (Value.int .i64)) rfl (by simp) hnews (by intro u hu; simp at hu; obtain ⟨x, -, rfl⟩ := hu; rfl) (by unfold maxLen; omega) (by omega) (by simp) ?_; intro v1 w1 hown1 hgrow1 _; rw [Nat.zero_add, List.nil_append] at hown1; have hB1 : Below w.heap.size w w1 := (alloc_below w _).grown hgrow1 (by simp) (fun j hj => (hrow0.lt j hj).1); clear hgrow1)
        go_ret
        exact ⟨_, rfl, by rw [E.out]; exact hown1, hB1⟩
      · have h0 : ¬ i < 0 := by omega
        go_enter Try.func24, Try.ntmps24
        go_wp2_with (at_builtin; refine wpList_append_own _ rfl _ _ 22 rfl w.heap.size 3 i0 (.int .i64 0) 1 8 Try.underlying22 hi hz0 hz1 hz2 rfl (by decide) _ _ _ rfl hrow0 ⟨b, o, none⟩ l.length capa (l.map (Value.int .i64)) rfl (by simp) hnews (by intro u hu; simp at hu; obtain ⟨x, -, rfl⟩ := hu; rfl) (by unfold maxLen; omega) (by omega) (by simp) ?_; intro v1 w1 hown1 hgrow1 _; rw [Nat.zero_add, List.nil_append] at hown1; have hB1 : Below w.heap.size w w1 := (alloc_below w _).grown hgrow1 (by simp) (fun j hj => (hrow0.lt j hj).1); clear hgrow1)
        go_ret
        exact ⟨_, rfl, by rw [E.out]; exact hown1, hB1⟩
    · have e : withL l i n = (stretchL l (max (l : List Int).length (i.toNat + 1))).set i.toNat n := by rw [withL, if_neg h]
      obtain ⟨q, rfl⟩ := Int.eq_ofNat_of_zero_le (show 0 ≤ i by omega)
      rw [Int.toNat_natCast] at e
      have E := hide e
      clear e
      have h0 : ¬ (q : Int) < 0 := by omega
      have h1 : ¬ 63 < (q : Int) := by omega
      clear h
      go_enter Try.func24, Try.ntmps24
      go_wp2_with (at_builtin; refine wpList_append_own _ rfl _ _ 22 rfl w.heap.size 3 i0 (.int .i64 0) 1 8 Try.underlying22 hi hz0 hz1 hz2 rfl (by decide) _ _ _ rfl hrow0 ⟨b, o, none⟩ l.length capa (l.map (Value.int .i64)) rfl (by simp) hnews (by intro u hu; simp at hu; obtain ⟨x, -, rfl⟩ := hu; rfl) (by unfold maxLen; omega) (by omega) (by simp) ?_; intro v1 w1 hown1 hgrow1 _; rw [Nat.zero_add, List.nil_append] at hown1; have hB1 : Below w.heap.size w w1 := (alloc_below w _).grown hgrow1 (by simp) (fun j hj => (hrow0.lt j hj).1); clear hgrow1)
      go_loopw [7] (fun v wr => ∃ k : Nat, l.length ≤ k ∧ k ≤ max l.length (q + 1) ∧ wr.ownsRow w.heap.size 3 1 v k ((stretchL l k).map (Value.int .i64)) ∧ Below w.heap.size w wr) (fun v _ => q + 1 - lenOf' v)
      case atStart => exact ⟨l.length, Nat.le_refl _, by omega, by rw [stretchL_self]; exact hown1, hB1⟩
      case round =>
        obtain ⟨k, hk1, hk2, hown, hB⟩ := hrel
        have hbs := hB.size
        by_cases hle : (k : Int) ≤ (q : Int)
        · obtain ⟨pv, cv, rfl⟩ := ownsRow_slice hown
          go_wp2_with (at_builtin; refine wpList_append_own _ rfl _ _ 22 rfl w.heap.size 3 i0 (.int .i64 0) 1 8 Try.underlying22 hi hz0 hz1 hz2 rfl (by decide) _ _ _ rfl (hown.alloc _) ⟨wr.heap.size, 0, none⟩ 1 1 [.int .i64 0] rfl rfl (cell_one_new _ _ _) (by intro u hu; simp at hu; subst hu; rfl) (by unfold maxLen; omega) (by omega) (by simp; omega) ?_; intro v2 w2 hown2 hgrow2 _)
          obtain ⟨pv2, cv2, rfl⟩ := ownsRow_slice hown2
          refine ⟨⟨k + 1, by omega, by omega, ?_, (hB.alloc hB.size _).grown hgrow2 (by simp; omega) (fun j hj => (hown.lt j hj).1)⟩, by simp [lenOf']; omega⟩
          rw [stretchL_succ l k hk1, List.map_append]
          exact hown2
        · have hkm : k = max l.length (q + 1) := by omega
          obtain ⟨k0, rfl⟩ : ∃ k0, k = k0 + 1 := ⟨k - 1, by omega⟩
          obtain ⟨gg, cv, rfl⟩ := ownsRow_succ hown
          have hc := hown.cellAt q (by omega)
          have hf := hown.frozenAt q
          have hlq : (q : Int) < (k0 : Int) + 1 := by omega
          obtain ⟨hown2, hg2⟩ := hown.stored q (.int .i64 n)
          rw [List.getElem?_map, List.getElem?_eq_getElem (by rw [stretchL_length _ _ hk1]; omega), Option.map_some] at hc
          generalize (stretchL l (k0 + 1))[q]'(by rw [stretchL_length _ _ hk1]; omega) = old at hc
          have hlt := (hown.lt gg rfl).1
          have HO := hide hown2
          replace hkm := hide hkm
          clear hown hown2 hg2
          go_wp2_with fail
          go_ret
          refine ⟨_, rfl, ?_, hB.setCell (p := ⟨gg, q, none⟩) hlt _⟩
          have := HO.out
          rw [← List.map_set] at this
          rw [E.out, ← hkm.out]
          exact (by rw [List.length_set, stretchL_length _ _ hk1]; exact this)

end Go.Proofs.Ytdkpbfigjdmfpaa

/- A region that draws its order and in which S holds throughout, operation by operation. Own work; no statement. -/
set_option linter.unusedSimpArgs false
set_option linter.unusedVariables false
namespace Go.Proofs.Ytdkpbfigjdmfpaa
open Go.RowKit

section
variable {P : Program} {ops : Array Oper} {Q : Exit → Act → World → Prop} {S : World → Prop}

theorem heldA (S : World → Prop) {g : Nat} {d : Array Bool} {a : Act} {w : World} (h : wpAnyH P .any ops Q S g d a w) : wpAny P .any ops Q g d a w := wpAny_of_held _ _ _ _ h
theorem takeH (i : Nat) {oi : Oper} (v : Value) {f : Nat} {d : Array Bool} {a : Act} {w : World} (hi : ops[i]? = some oi) (hb : (Region.noSelect ops && Region.free .any ops d i && (Region.ready .any ops d).contains i) = true)
    (hy : YieldsIf P ops S oi v a) (hS : S w) (h : wpAnyH P .any ops (noPanic Q) S f (d.setIfInBounds i true) (a.put oi.dst v) w) : wpAnyH P .any ops (noPanic Q) S (f + 1) d a w := by
  simp only [Bool.and_eq_true] at hb
  exact wpAnyH_take hi hb.1.1 hb.1.2 hb.2 (fun _ _ _ h => h) hy hS h
theorem onlyH (i : Nat) {f : Nat} {d : Array Bool} {a : Act} {w : World} (hr : Region.ready .any ops d = [i]) (h : wpOp P ops Q i (fun a' w' => S w' ∧ wpAnyH P .any ops Q S f (d.setIfInBounds i true) a' w') a w) : wpAnyH P .any ops Q S (f + 1) d a w :=
  wpAnyH_all hr (by simp) fun j hj => by
    obtain rfl : j = i := by simpa using hj
    exact h
theorem endH {d : Array Bool} {a : Act} {w : World} (hr : Region.ready .any ops d = []) (h : Q .normal a w) : wpAnyH P .any ops (noPanic Q) S 0 d a w := wpAnyH_done (Q := noPanic Q) (S := S) hr (show noPanic Q .normal a w from h) 0
end

end Go.Proofs.Ytdkpbfigjdmfpaa

/- What the reference's Admit of layer 9 has under way. Own work; no statement. -/
set_option linter.unusedSimpArgs false
set_option linter.unusedVariables false
namespace Go.Proofs.Ytdkpbfigjdmfpaa
open Go.RowKit Go.Shelf Go.Sort

/-- The token in its block, what is left, the slots. What drafts hang on lies where it lay in w0. -/
structure RAdm (w0 w wr : World) (own next : Int) (sv : Value) (s : List Int) (lt : Value) (lv : Value) (ql : List Dv) (tv : Value) (sl : List Sv) : Prop where
  below : RowKit.Below w.heap.size w wr
  size : w.heap.size + 2 ≤ wr.heap.size
  tok : wr.heap[w.heap.size]? = some (.cells #[.int .i64 own, .int .i64 next, sv, lt] 34 (0, 0))
  res : wr.heap[w.heap.size + 1]? = some (.cells #[.int .i64 0, .int .i64 0, .slice none 0 0, .slice none 0 0] 34 (0, 0))
  seen : IsNums .i64 w0 sv s ∨ wr.ownsRow (w.heap.size + 2) 3 1 sv s.length (s.map (Value.int .i64))
  left : wr.ownsRow (w.heap.size + 2) 46 6 lv ql.length (ql.flatMap Dv.cells)
  nums : ∀ q ∈ ql, IsNums .i64 w0 q.vd q.d.r.dep
  slots : wr.ownsRow (w.heap.size + 2) 80 7 tv sl.length (sl.flatMap Sv.cells)
  deps : ∀ x ∈ sl, IsNums .i64 w0 x.q.vd x.q.d.r.dep
section
variable {w0 w wr w' : World} {own next : Int} {sv : Value} {s : List Int} {lt lv : Value} {ql : List Dv} {tv : Value} {sl : List Sv}
theorem RAdm.new (h : RAdm w0 w wr own next sv s lt lv ql tv sl) (hb : RowKit.Below wr.heap.size wr w') : RAdm w0 w w' own next sv s lt lv ql tv sl :=
  ⟨h.below.trans (hb.mono h.below.size), by have := hb.size; have := h.size; omega, keepB h.tok hb, keepB h.res hb, h.seen.imp id fun x => own_below x hb, own_below h.left hb, h.nums, own_below h.slots hb, h.deps⟩
/-- The token's block is written. -/
theorem RAdm.set (h : RAdm w0 w wr own next sv s lt lv ql tv sl) {next' : Int} {sv' : Value} {s' : List Int} {lt' : Value} (ho : ∀ k, k < wr.heap.size → k ≠ w.heap.size → w'.heap[k]? = wr.heap[k]?) (hz : wr.heap.size ≤ w'.heap.size) (hb : RowKit.Below w.heap.size w w')
    (ht : w'.heap[w.heap.size]? = some (.cells #[.int .i64 own, .int .i64 next', sv', lt'] 34 (0, 0))) (hs : IsNums .i64 w0 sv' s' ∨ wr.ownsRow (w.heap.size + 2) 3 1 sv' s'.length (s'.map (Value.int .i64))) : RAdm w0 w w' own next' sv' s' lt' lv ql tv sl := by
  have hz1 := h.size
  exact ⟨hb, by omega, ht, (ho _ (by omega) (by omega)).trans h.res, hs.imp id fun x => ownsRow_of_heap x fun k e => ho k (x.lt k e).2 (by have := (x.lt k e).1; omega), ownsRow_of_heap h.left fun k e => ho k (h.left.lt k e).2 (by have := (h.left.lt k e).1; omega), h.nums, ownsRow_of_heap h.slots fun k e => ho k (h.slots.lt k e).2 (by have := (h.slots.lt k e).1; omega), h.deps⟩
/-- A slot more. -/
theorem RAdm.add (h : RAdm w0 w wr own next sv s lt lv ql tv sl) {o : Obj} {tv' : Value} {x : Sv} (hd : IsNums .i64 w0 x.q.vd x.q.d.r.dep)
    (hown : w'.ownsRow (w.heap.size + 2) 80 7 tv' (sl.length + 1) (sl.flatMap Sv.cells ++ x.cells)) (hgrow : (wr.alloc o).grownBy w' tv.ownBlock) : RAdm w0 w w' own next sv s lt lv ql tv' (sl ++ [x]) := by
  have hz := h.size
  have hks : ∀ k, k < wr.heap.size → tv.ownBlock ≠ some k → w'.heap[k]? = wr.heap[k]? := fun k hk hn => (hgrow.block k (by simp; omega) (fun e => hn e.symm)).trans (Below.heap_alloc _ _ _ hk)
  have keep : ∀ {e sz v n xs}, e ≠ 80 → wr.ownsRow (w.heap.size + 2) e sz v n xs → w'.ownsRow (w.heap.size + 2) e sz v n xs := fun he hr =>
    ownsRow_of_heap hr fun k hk => hks k (hr.lt k hk).2 (rows_apart he hr h.slots k hk)
  refine ⟨(h.below.alloc (by omega) o).grown hgrow (by simp; omega) (fun j hj => by have := (h.slots.lt j hj).1; omega), by have := hgrow.size; simp at this; omega, (hks _ (by omega) (fun e => by have := (h.slots.lt _ e).1; omega)).trans h.tok, (hks _ (by omega) (fun e => by have := (h.slots.lt _ e).1; omega)).trans h.res, h.seen.imp id fun x => keep (by decide) x, keep (by decide) h.left, h.nums, by rw [List.length_append, List.flatMap_append]; simpa using hown, fun y hy => ?_⟩
  rcases List.mem_append.1 hy with hy | hy
  · exact h.deps y hy
  · rw [List.mem_singleton.1 hy]
    exact hd
/-- One of what is left is taken away: into another row. -/
theorem RAdm.take (h : RAdm w0 w wr own next sv s lt lv ql tv sl) {lv' : Value} {ql' : List Dv} (hl : w'.ownsRow wr.heap.size 46 6 lv' ql'.length (ql'.flatMap Dv.cells)) (hq : ∀ q ∈ ql', q ∈ ql) (hb : RowKit.Below wr.heap.size wr w') : RAdm w0 w w' own next sv s lt lv' ql' tv sl :=
  let n := h.new hb
  ⟨n.below, n.size, n.tok, n.res, n.seen, ownsRow_low hl h.size, fun q hq' => h.nums q (hq q hq'), n.slots, h.deps⟩
theorem RAdm.setNext (h : RAdm w0 w wr own next sv s lt lv ql tv sl) (n : Int) : RAdm w0 w (wr.setCell ⟨w.heap.size, 1, none⟩ (.int .i64 n)) own n sv s lt lv ql tv sl :=
  h.set (fun k _ hk => Below.heap_setCell _ _ _ _ hk) (by simp) (h.below.setCell (p := ⟨w.heap.size, 1, none⟩) (Nat.le_refl _) _) (by have := setAt (j := 1) h.tok (.int .i64 n); simpa using this) h.seen
theorem RAdm.setSeen (h : RAdm w0 w wr own next sv s lt lv ql tv sl) {sv' : Value} {s' : List Int} (hs : wr.ownsRow (w.heap.size + 2) 3 1 sv' s'.length (s'.map (Value.int .i64))) : RAdm w0 w (wr.setCell ⟨w.heap.size, 2, none⟩ sv') own next sv' s' lt lv ql tv sl :=
  h.set (fun k _ hk => Below.heap_setCell _ _ _ _ hk) (by simp) (h.below.setCell (p := ⟨w.heap.size, 2, none⟩) (Nat.le_refl _) _) (by have := setAt (j := 2) h.tok sv'; simpa using this) (.inr hs)
theorem RAdm.setLate (h : RAdm w0 w wr own next sv s lt lv ql tv sl) (lt' : Value) : RAdm w0 w (wr.setCell ⟨w.heap.size, 3, none⟩ lt') own next sv s lt' lv ql tv sl :=
  h.set (fun k _ hk => Below.heap_setCell _ _ _ _ hk) (by simp) (h.below.setCell (p := ⟨w.heap.size, 3, none⟩) (Nat.le_refl _) _) (by have := setAt (j := 3) h.tok lt'; simpa using this) h.seen
/-- Of older blocks just the token's was written. -/
theorem RAdm.touched (h : RAdm w0 w wr own next sv s lt lv ql tv sl) {lt' : Value} (ht : Touch (fun b => b = w.heap.size) wr w') (hk : w'.heap[w.heap.size]? = some (.cells #[.int .i64 own, .int .i64 next, sv, lt'] 34 (0, 0))) : RAdm w0 w w' own next sv s lt' lv ql tv sl :=
  h.set (fun k h1 h2 => ht.block k h1 h2) ht.size (h.below.trans (ht.below h.below.size fun k _ e => Nat.le_of_eq e.symm)) hk h.seen
/-- What is seen, read. -/
theorem RAdm.isSeen (h : RAdm w0 w wr own next sv s lt lv ql tv sl) (h0 : RowKit.Below w0.heap.size w0 w) : IsNums .i64 wr sv s :=
  h.seen.elim (fun x => x.below (h0.trans (h.below.mono h0.size))) fun x => IsNums.of_row x
theorem RAdm.form (h : RAdm w0 w wr own next sv s lt lv ql tv sl) : ∃ a c, sv = .slice a s.length c := h.seen.elim (fun x => x.form) fun x => (IsNums.of_row x).form
end

end Go.Proofs.Ytdkpbfigjdmfpaa

/- An append onto a row of one's own, as one operation of a region. Own work; no statement. -/
set_option linter.unusedSimpArgs false
set_option linter.unusedVariables false
namespace Go.Proofs.Ytdkpbfigjdmfpaa
open Go.RowKit

section
variable {P : Program} {ops : Array Oper} {Q : Exit → Act → World → Prop}
theorem wpOp_appendT {i : Nat} {o : Oper} {K : Act → World → Prop} {a : Act} {w : World} (hi : ops[i]? = some o) (hg : o.guard = none) (s x : Operand) (t : TypeId) (hop : o.op = Op.call { callee := Callee.builtin Builtin.append, args := #[s, x], argTypes := #[t, t] })
    (base : Nat) (e : TypeId) (i0 : TypeInfo) (z : Value) (size bytes : Nat) (h1 : P.underlying t = some (.slice e)) (h2 : P.info? e = some i0) (h3 : i0.zero = some z) (h4 : i0.size = size) (h5 : i0.bytes = bytes) (h6 : z.cells.size = size) (h7 : 0 < size)
    (v : Value) (n : Nat) (xs : List Value) (hs : a.eval s = v) (hown : w.ownsRow base e size v n xs) (ad : Addr) (k c : Nat) (news : List Value) (hx : a.eval x = .slice (some ad) k c) (hn : news.length = k * size) (hc : ∀ j u, news[j]? = some u → w.cell? (ad.add j) = some u) (h1c : ∀ u ∈ news, u.oneCell' = true)
    (b1 : n + k ≤ maxLen) (b2 : (n + k) * bytes ≤ 140737488355328) (hb : base ≤ w.heap.size)
    (hK : ∀ v' w', w'.ownsRow base e size v' (n + k) (xs ++ news) → w.grownBy w' v.ownBlock → K (a.put o.dst v') w') : wpOp P ops Q i K a w := by
  unfold wpOp
  simp only [hi]
  rw [if_pos (by simp [Region.wanted, hg])]
  refine .inl ?_
  unfold Oper.wp
  obtain ⟨v', w', hrun, r1, r2, _⟩ := run_append_own (P := P) w base t o.type e i0 z size bytes h1 h2 h3 h4 h5 h6 h7 v n xs hown ad k c news hn hc h1c b1 b2 hb
  simp [execOp, hop, resolve, invoke, builtin, hs, hx, hrun, Result.andThen]
  exact hK v' w' r1 r2
end

end Go.Proofs.Ytdkpbfigjdmfpaa
