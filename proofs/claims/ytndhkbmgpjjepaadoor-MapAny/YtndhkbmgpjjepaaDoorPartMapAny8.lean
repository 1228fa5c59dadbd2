/- Own work: the parts RefE, RW3, M21, M22, M23, M24, FrameP of the proof, laid together. -/
import Derived.Test.YtndhkbmgpjjepaaDoorPartMapAny7
import Derived.Test.YtndhkbmgpjjepaaDoorPartMapAny6
import Derived.Test.YtndhkbmgpjjepaaDoorPartMapAny1
import Derived.ProofKit
import Derived.OpenShut
import Derived.ShutString
import Derived.ChangeOld
import Derived.Deep.DeepHandedRow
/- The walk of the reference's Split. Own work; no statement. -/
set_option linter.unusedSimpArgs false
set_option linter.unusedVariables false
namespace Go.Proofs.YtndhkbmgpjjepaaDoor
open Go.RowKit Go.Shelf

theorem splitL_snoc_blank : ∀ (l : List UInt8), splitL (l ++ [32]) = splitL l ++ [[]] := fun l => by rw [splitL_append]; rfl
theorem splitL_snoc (c : UInt8) (hc : c ≠ 32) : ∀ (l : List UInt8), ∃ ys x, splitL l = ys ++ [x] ∧ splitL (l ++ [c]) = ys ++ [x ++ [c]]
  | [] => ⟨[], [], rfl, by simp [splitL, hc]⟩
  | d :: l => by
    obtain ⟨ys, x, h1, h2⟩ := splitL_snoc c hc l
    simp only [List.cons_append, splitL]
    by_cases hd : d = 32
    · rw [if_pos hd, if_pos hd, h1, h2]
      exact ⟨[] :: ys, x, rfl, rfl⟩
    · rw [if_neg hd, if_neg hd, h1, h2]
      cases ys with
      | nil => exact ⟨[], d :: x, rfl, rfl⟩
      | cons y ys => exact ⟨(d :: y) :: ys, x, rfl, rfl⟩

def strs (ws : List (List UInt8)) : List Value := ws.map fun x => .string ⟨x.toArray⟩

theorem Tryd.info9 : (Tryd.prog.info? 9).map (fun i => (i.zero, i.size, i.bytes)) = some (some (.string ⟨#[]⟩), 1, 16) := by kernel_rfl

theorem strs_set (ys : List (List UInt8)) (x y : List UInt8) : (strs (ys ++ [x])).set ys.length (.string ⟨y.toArray⟩) = strs (ys ++ [y]) := by
  rw [strs, strs, List.map_append, List.map_append, List.set_append_right _ _ (by simp)]
  simp
theorem splitL_count : ∀ (l : List UInt8), (splitL l).length ≤ l.length + 1
  | [] => by simp [splitL]
  | c :: l => by
    have ih := splitL_count l
    simp only [splitL]
    split
    · simp; omega
    · cases hl : splitL l with
      | nil => simp
      | cons y ys => rw [hl] at ih; simp at ih ⊢; omega
theorem split_mem_len : ∀ (l : List UInt8) (x : List UInt8), x ∈ splitL l → x.length ≤ l.length
  | [], x, h => by simp [splitL] at h; simp [h]
  | c :: l, x, h => by
    simp only [splitL] at h
    split at h
    · rcases List.mem_cons.1 h with rfl | h
      · simp
      · have := split_mem_len l x h; simp; omega
    · cases hl : splitL l with
      | nil => exact absurd hl (splitL_ne l)
      | cons y ys =>
        rw [hl] at h
        rcases List.mem_cons.1 h with rfl | h
        · have := split_mem_len l y (by rw [hl]; simp); simp; omega
        · have := split_mem_len l x (by rw [hl]; simp [h]); simp; omega
theorem byte_ext (s : ByteArray) (x : List UInt8) (k : Nat) (h : k < s.size) : (⟨x.toArray⟩ : ByteArray) ++ s.extract k (k + 1) = ⟨(x ++ [s[k]]).toArray⟩ := by
  have e : s.extract k (k + 1) = ⟨[s[k]].toArray⟩ := by
    have e0 : s.extract k (k + 1) = ⟨((s.data.toList.drop k).take (k + 1 - k)).toArray⟩ := extract_list s.data.toList k (k + 1)
    have hk : k < s.data.toList.length := by rw [← Lib.size_eq]; exact h
    rw [e0, List.drop_eq_getElem_cons hk, show k + 1 - k = 0 + 1 by omega, List.take_succ_cons, List.take_zero]
    rfl
  rw [e, app_bytes]

set_option maxRecDepth 20000 in
set_option maxHeartbeats 2000000 in
theorem refSplit_calls (s : ByteArray) (w : World) (hs : s.size ≤ 1048576) :
    Calls Tryd.prog 28 #[.string s, .int .u8 32] w fun e w' => ∃ v, e = .returned v ∧ w'.ownsRow w.heap.size 9 1 v (splitL s.data.toList).length (strs (splitL s.data.toList)) ∧ Below w.heap.size w w' := by
  obtain ⟨i0, hi, hz0, hz1, hz2⟩ := info_parts Tryd.info9
  have hrow0 : (w.alloc (.cells #[.string ⟨#[]⟩] 9)).ownsRow w.heap.size 9 1 (.slice (some ⟨w.heap.size, 0, none⟩) 1 1) 1 (strs (splitL [])) := World.ownsRow_lit w #[.string ⟨#[]⟩] 1 (Nat.le_refl _) (by unfold maxLen; omega) rfl
  go_enter Tryd.func28, Tryd.ntmps28
  go_wp2_with fail
  go_loopw [5, 6] (fun v i wr => ∃ k : Nat, k ≤ s.size ∧ i = .int .i64 (k : Int) ∧ wr.ownsRow w.heap.size 9 1 v (splitL (s.data.toList.take k)).length (strs (splitL (s.data.toList.take k))) ∧ Below w.heap.size w wr) (fun _ i _ => s.size - (intOf i).toNat)
  case atStart => exact ⟨0, Nat.zero_le _, rfl, hrow0, alloc_below _ _⟩
  case round =>
    obtain ⟨k, hk, rfl, hown, hB⟩ := hrel
    clear hrow0
    have hbs := hB.size
    have hlen : (splitL (s.data.toList.take k)).length ≤ k + 1 := by
      have := splitL_count (s.data.toList.take k)
      rw [List.length_take] at this
      omega
    by_cases hkl : k < s.size
    · have hlt : (k : Int) < (s.size : Int) := by omega
      have hts := take_snoc_byte s k hkl
      by_cases hc : s[k] = 32
      · have hc1 : (((s[k].toNat : Nat) : Int) == 32) = true := by rw [hc]; rfl
        have hsp := splitL_snoc_blank (s.data.toList.take k)
        rw [← hc, ← hts] at hsp
        replace hsp := hide hsp
        clear hts hc
        generalize splitL (s.data.toList.take k) = ws at *
        obtain ⟨pv, cv, rfl⟩ := ownsRow_slice hown
        go_wp2_with (at_builtin; refine wpList_append_own _ rfl _ _ 66 rfl w.heap.size 9 i0 (.string ⟨#[]⟩) 1 16 Tryd.underlying66 hi hz0 hz1 hz2 rfl (by decide) _ _ _ rfl (hown.alloc _) ⟨wr.heap.size, 0, none⟩ 1 1 [.string ⟨#[]⟩] rfl rfl (cell_one_new _ _ _) (by intro u hu; simp at hu; subst hu; rfl) (by unfold maxLen; omega) (by omega) (by simp; omega) ?_; intro v2 w2 hown2 hgrow2 _)
        refine ⟨⟨k + 1, by omega, by go_num, ?_, (hB.alloc hB.size _).grown hgrow2 (by simp; omega) (fun j hj => (hown.lt j hj).1)⟩, by simp [intOf]; omega⟩
        rw [hsp.out, List.length_append, strs, List.map_append]
        exact hown2
      · have hc1 : (((s[k].toNat : Nat) : Int) == 32) = false := by
          rw [beq_eq_false_iff_ne]
          intro e
          exact hc (UInt8.toNat_inj.1 (by simp; omega))
        obtain ⟨ys, x, h1, h2⟩ := splitL_snoc s[k] hc (s.data.toList.take k)
        have hxl : x.length ≤ k := by
          have := split_mem_len (s.data.toList.take k) x (by rw [h1]; simp)
          rw [List.length_take] at this
          omega
        rw [← hts] at h2
        have hbe := hide (byte_ext s x k hkl)
        rw [h1] at hown hlen
        rw [List.length_append, List.length_singleton] at hown hlen
        replace h2 := hide h2
        clear hts h1 hc
        obtain ⟨gg, cv, rfl⟩ := ownsRow_succ hown
        have hcl := hown.cellAt ys.length (by omega)
        rw [strs, List.getElem?_map, List.getElem?_append_right (Nat.le_refl _), Nat.sub_self] at hcl
        simp only [List.getElem?_cons_zero, Option.map_some] at hcl
        have hf := hown.frozenAt ys.length
        have hglt := (hown.lt gg rfl).1
        obtain ⟨hown2, -⟩ := hown.stored ys.length (.string ⟨(x ++ [s[k]]).toArray⟩)
        replace hown2 := hide hown2
        have hi1 : (ys.length : Int) < (ys.length : Int) + 1 := by omega
        have hk2 : (k : Int) + 1 ≤ (s.size : Int) := by omega
        clear hown
        go_wp2_with fail
        go_region
        go_wp2_with fail
        refine ⟨⟨k + 1, by omega, by go_num, ?_, (hB.setCell (p := ⟨gg, ys.length, none⟩) hglt _).drew⟩, by simp [intOf]; omega⟩
        rw [hbe.out, h2.out, List.length_append, List.length_singleton]
        have := hown2.out
        rw [strs_set] at this
        exact this
    · have e : s.data.toList.take k = s.data.toList := List.take_of_length_le (by rw [← Lib.size_eq]; omega)
      rw [e] at hown
      clear e hlen
      go_wp2_with fail
      go_ret
      exact ⟨_, rfl, hown, hB⟩

end Go.Proofs.YtndhkbmgpjjepaaDoor

/- Plain laws: a record's parts, found place by place. Own work; no statement. -/
set_option linter.unusedSimpArgs false
set_option linter.unusedVariables false
namespace Go.Proofs.YtndhkbmgpjjepaaDoor

theorem find_range (l : List UInt8) (c : UInt8) (i : Nat) : findL l c i = -1 ∨ ∃ k : Nat, findL l c i = k := by
  unfold findL
  split
  · exact .inl rfl
  · have := Lib.indexByte_ge (l.drop i) c
    exact .inr ⟨(i + Lib.indexByte (l.drop i) c).toNat, by omega⟩

theorem find_cut {l : List UInt8} {c : UInt8} {i k : Nat} (h : findL l c i = k) : i ≤ k ∧ k < l.length ∧ Lib.indexByte (l.drop i) c = ((k - i : Nat) : Int) ∧ cutL (l.drop i) c = ((l.drop i).take (k - i), l.drop (k + 1), true) := by
  unfold findL at h
  split at h
  · omega
  · rename_i hn
    have h1 := Lib.indexByte_ge (l.drop i) c
    have h2 := indexByte_lt (l.drop i) c
    rw [List.length_drop] at h2
    have e : Lib.indexByte (l.drop i) c = ((k - i : Nat) : Int) := by omega
    refine ⟨by omega, by omega, e, ?_⟩
    unfold cutL
    rw [e, if_neg (by omega), Int.toNat_natCast, List.drop_drop, show i + (k - i + 1) = k + 1 by omega]

theorem find_none {l : List UInt8} {c : UInt8} {i : Nat} (h : findL l c i = -1) : Lib.indexByte (l.drop i) c = -1 ∧ (cutL (l.drop i) c).2.2 = false := by
  unfold findL at h
  split at h
  · rename_i hn
    refine ⟨hn, ?_⟩
    unfold cutL
    rw [if_pos hn]
  · have h1 := Lib.indexByte_ge (l.drop i) c
    omega

theorem find_at {l : List UInt8} {c : UInt8} {i k : Nat} (h : findL l c i = k) : l[k]? = some c := by
  obtain ⟨h1, h2, -, h4⟩ := find_cut h
  have h5 := @cut_form (l.drop i) c (by rw [h4])
  rw [h4] at h5
  have h6 : (l.drop i)[k - i]? = some c := by
    rw [h5]
    dsimp only
    have hl : ((l.drop i).take (k - i)).length = k - i := by simp; omega
    rw [List.getElem?_append_right (by omega), hl, Nat.sub_self]
    rfl
  rwa [List.getElem?_drop, show i + (k - i) = k by omega] at h6

theorem find_step {l : List UInt8} {c x : UInt8} {i : Nat} (h : l[i]? = some x) (hx : x ≠ c) : findL l c i = findL l c (i + 1) := by
  obtain ⟨hi, rfl⟩ := List.getElem?_eq_some_iff.1 h
  unfold findL
  rw [List.drop_eq_getElem_cons hi]
  have hb : (l[i] == c) = false := by simpa using hx
  have hg := Lib.indexByte_ge (l.drop (i + 1)) c
  simp only [Lib.indexByte, hb]
  by_cases hn : Lib.indexByte (l.drop (i + 1)) c = -1
  · simp [hn]
  · simp [hn]
    omega

theorem none_parse {l : List UInt8} (h : splitR l = none) : parseR l = (zeroR, 2) := by
  unfold parseR
  rw [h]
  rfl

theorem at_a {l : List UInt8} (h : findL l 58 0 = -1) : splitR l = none := by
  have h1 := (find_none h).2
  rw [List.drop_zero] at h1
  unfold splitR
  dsimp only
  rw [if_neg (by simp [h1])]

theorem cut_a {l : List UInt8} {a : Nat} (h : findL l 58 0 = a) : a < l.length ∧ cutL l 58 = (l.take a, l.drop (a + 1), true) := by
  obtain ⟨-, h2, -, h4⟩ := find_cut h
  rw [List.drop_zero, Nat.sub_zero] at h4
  exact ⟨h2, h4⟩

theorem at_b {l : List UInt8} {a : Nat} (h : findL l 58 0 = a) (h' : findL l 32 a = -1) : splitR l = none := by
  have ha := (cut_a h).2
  rw [find_step (find_at h) (by decide)] at h'
  have h1 := (find_none h').2
  unfold splitR
  dsimp only
  rw [ha]
  dsimp only
  rw [if_neg (by simp [h1])]

theorem cut_b {l : List UInt8} {a b : Nat} (h : findL l 58 0 = a) (h' : findL l 32 a = b) : a < b ∧ b < l.length ∧ cutL (l.drop (a + 1)) 32 = ((l.drop (a + 1)).take (b - (a + 1)), l.drop (b + 1), true) := by
  rw [find_step (find_at h) (by decide)] at h'
  obtain ⟨h1, h2, -, h4⟩ := find_cut h'
  exact ⟨by omega, h2, h4⟩

theorem at_c {l : List UInt8} {a b : Nat} (ha : findL l 58 0 = a) (hb : findL l 32 a = b) (hc : findL l 93 b = -1) : splitR l = none := by
  rw [find_step (find_at hb) (by decide)] at hc
  have h1 := (find_none hc).1
  unfold splitR
  dsimp only
  rw [(cut_a ha).2]
  dsimp only
  rw [(cut_b ha hb).2.2]
  dsimp only
  rw [h1, if_neg (by simp)]

theorem cut_c {l : List UInt8} {b c : Nat} {a : Nat} (hb : findL l 32 a = b) (hc : findL l 93 b = c) : b < c ∧ c < l.length ∧ Lib.indexByte (l.drop (b + 1)) 93 = ((c - (b + 1) : Nat) : Int) := by
  rw [find_step (find_at hb) (by decide)] at hc
  obtain ⟨h1, h2, h3, -⟩ := find_cut hc
  exact ⟨by omega, h2, h3⟩

theorem prefix_head (r : List UInt8) (x : UInt8) : Lib.hasPrefix r [x] = decide (r.head? = some x) := by
  cases r with
  | nil => simp [Lib.hasPrefix, List.isPrefixOf]
  | cons y r =>
    simp only [Lib.hasPrefix, List.isPrefixOf, Bool.and_true, List.head?_cons, Option.some.injEq]
    by_cases h : x = y
    · simp [h]
    · have h' : ¬ y = x := fun e => h e.symm
      simp [h, h']

/-- Where the middle is found, what splitR sees. -/
theorem split_c {l : List UInt8} {a b c : Nat} (ha : findL l 58 0 = a) (hb : findL l 32 a = b) (hc : findL l 93 b = c) :
    splitR l = if l[c + 1]? = some 32 ∧ (cutL (Lib.trimPrefix (l.drop (c + 1)) [32]) 61).2.2 = true then some ⟨l.take a, (l.drop (a + 1)).take (b - (a + 1)), (l.drop (b + 1)).take (c - b), (cutL (Lib.trimPrefix (l.drop (c + 1)) [32]) 61).1, (cutL (Lib.trimPrefix (l.drop (c + 1)) [32]) 61).2.1⟩ else none := by
  obtain ⟨k1, k2, k3⟩ := cut_c hb hc
  unfold splitR
  dsimp only
  rw [(cut_a ha).2]
  dsimp only
  rw [(cut_b ha hb).2.2]
  dsimp only
  rw [k3, show (((c - (b + 1) : Nat) : Int) + 1).toNat = c - b by omega, List.drop_drop, show b + 1 + (c - b) = c + 1 by omega, prefix_head, List.head?_drop]
  have hne : c - b ≠ 0 := by omega
  simp only [true_and, decide_eq_true_eq, ne_eq, hne, not_false_eq_true]

theorem at_sp {l : List UInt8} {a b c : Nat} (ha : findL l 58 0 = a) (hb : findL l 32 a = b) (hc : findL l 93 b = c) (h : ¬ l[c + 1]? = some 32) : splitR l = none := by
  rw [split_c ha hb hc, if_neg (fun hh => h hh.1)]

theorem trim_sp {l : List UInt8} {c : Nat} (h : l[c + 1]? = some 32) : Lib.trimPrefix (l.drop (c + 1)) [32] = l.drop (c + 2) := by
  unfold Lib.trimPrefix
  rw [prefix_head, List.head?_drop, h]
  simp

theorem at_d {l : List UInt8} {a b c : Nat} (ha : findL l 58 0 = a) (hb : findL l 32 a = b) (hc : findL l 93 b = c) (h : l[c + 1]? = some 32) (hd : findL l 61 c = -1) : splitR l = none := by
  rw [find_step (find_at hc) (by decide), find_step h (by decide)] at hd
  have h1 := (find_none hd).2
  rw [split_c ha hb hc, trim_sp h, if_neg (by simp [h1])]

theorem at_all {l : List UInt8} {a b c d : Nat} (ha : findL l 58 0 = a) (hb : findL l 32 a = b) (hc : findL l 93 b = c) (h : l[c + 1]? = some 32) (hd : findL l 61 c = d) :
    splitR l = some ⟨l.take a, (l.drop (a + 1)).take (b - (a + 1)), (l.drop (b + 1)).take (c - b), (l.drop (c + 2)).take (d - (c + 2)), l.drop (d + 1)⟩ ∧ c + 2 ≤ d ∧ d < l.length := by
  rw [find_step (find_at hc) (by decide), find_step h (by decide)] at hd
  obtain ⟨h1, h2, -, h4⟩ := find_cut hd
  rw [split_c ha hb hc, trim_sp h, h4]
  dsimp only
  rw [if_pos ⟨h, rfl⟩]
  exact ⟨rfl, h1, h2⟩

/-- Where no bracket stands, it is no record. -/
theorem no_bracket {l : List UInt8} {a b : Nat} (ha : findL l 58 0 = a) (hb : findL l 32 a = b) (h : ¬ l[b + 1]? = some 91) : parseR l = (zeroR, 2) := by
  rcases find_range l 93 b with hc | ⟨c, hc⟩
  · exact none_parse (at_c ha hb hc)
  · by_cases hs : l[c + 1]? = some 32
    · rcases find_range l 61 c with hd | ⟨d, hd⟩
      · exact none_parse (at_d ha hb hc hs hd)
      · have hp := (at_all ha hb hc hs hd).1
        have hbc := cut_c hb hc
        have hbr : parseL ((l.drop (b + 1)).take (c - b)) = ([], 2) := by
          unfold parseL bracketB
          rw [prefix_head, if_neg]
          have : ((l.drop (b + 1)).take (c - b)).head? = l[b + 1]? := by
            rw [List.head?_take, if_neg (by omega), List.head?_drop]
          rw [this, decide_eq_false h]
          simp
        unfold parseR
        rw [hp]
        dsimp only
        unfold parseP
        rw [hbr]
        dsimp only
        split
        · rw [if_neg (by decide)]
        · rfl
    · exact none_parse (at_sp ha hb hc hs)

end Go.Proofs.YtndhkbmgpjjepaaDoor

/- The laws' same; the reference's ParseMap. Own work; no statement. -/
set_option linter.unusedSimpArgs false
set_option linter.unusedVariables false
namespace Go.Proofs.YtndhkbmgpjjepaaDoor
open Go.RowKit Go.Shelf

theorem spansB_take_succ (ws : List (List UInt8)) (i : Nat) (h : i < ws.length) (hb : spansB (ws.take i) = true) : spansB (ws.take (i + 1)) = (spanL ws[i]).2 := by
  unfold spansB at hb ⊢
  rw [List.take_add_one, List.getElem?_eq_getElem h, Option.toList_some, List.all_append, hb]
  simp
theorem spansOf_take_succ (ws : List (List UInt8)) (i : Nat) (h : i < ws.length) : spansOf (ws.take (i + 1)) = spansOf (ws.take i) ++ [(spanL ws[i]).1] := by
  unfold spansOf
  rw [List.take_add_one, List.getElem?_eq_getElem h, Option.toList_some, List.map_append]
  rfl
theorem spansB_bad (ws : List (List UInt8)) (i : Nat) (h : i < ws.length) (hb : (spanL ws[i]).2 = false) : spansB ws = false := by
  unfold spansB
  rw [List.all_eq_false]
  exact ⟨ws[i], List.getElem_mem h, by simp [hb]⟩
theorem parseM_bad {s : List UInt8} (hne : ¬ s = []) (h : spansB (splitL s) = false) : parseM s = ([], 2) := by
  have e : parseT s = ([], false) := by unfold parseT; rw [if_neg hne, parseW, if_neg (by rw [h]; simp)]
  unfold parseM
  rw [e, if_neg (by simp)]
theorem parseM_good {s : List UInt8} (hne : ¬ s = []) (h : spansB (splitL s) = true) : parseM s = if okMap (spansOf (splitL s)) = true then (spansOf (splitL s), 0) else ([], 1) := by
  have e : parseT s = (spansOf (splitL s), true) := by unfold parseT; rw [if_neg hne, parseW, if_pos h]
  unfold parseM
  rw [e, if_pos rfl]
theorem spanL_miss {l : List UInt8} (h : findL l 47 0 = -1) : spanL l = ((0, 0), false) := by
  have h1 := (find_none h).1
  rw [List.drop_zero] at h1
  have hc : cutL l 47 = (l, [], false) := by unfold cutL; rw [if_pos h1]
  unfold spanL
  rw [hc]
  dsimp only
  rw [if_neg]
  rintro ⟨_, h2⟩
  exact absurd h2 (by decide)
theorem spanL_hit {l : List UInt8} {k : Nat} (h : findL l 47 0 = k) : k < l.length ∧ spanL l = if (numL (l.take k)).2 = true ∧ (numL (l.drop (k + 1))).2 = true then (((numL (l.take k)).1, (numL (l.drop (k + 1))).1), true) else ((0, 0), false) := by
  obtain ⟨_, h2, _, h4⟩ := find_cut h
  rw [List.drop_zero, Nat.sub_zero] at h4
  refine ⟨h2, ?_⟩
  unfold spanL
  rw [h4]

set_option maxHeartbeats 4000000 in
set_option maxRecDepth 100000 in
theorem refParseMap_calls (s : List UInt8) (w : World) (hs : s.length ≤ 1048576) :
    Calls Tryd.prog 20 #[.string ⟨s.toArray⟩] w fun e w' => ∃ v, e = .returned (.tuple #[v, .int .i64 (parseM s).2]) ∧ OwnsR w' w.heap.size v (parseM s).1 ∧ Below w.heap.size w w' := by
  obtain ⟨i0, hi0, hz0, hz1, hz2⟩ := info_parts Tryd.info60
  obtain ⟨r, hr⟩ : ∃ r, parseM s = r := ⟨_, rfl⟩
  rw [hr]
  by_cases hne : s = []
  · subst hne
    obtain rfl : r = ([], 1) := by rw [← hr]; rfl
    go_enter Tryd.func20, Tryd.ntmps20
    go_wp2
    go_ret2
    exact ⟨_, rfl, World.ownsRow_nil _ _ _ _, Below.refl _ _⟩
  · have hem : s.isEmpty = false := by cases s with
      | nil => exact absurd rfl hne
      | cons x r => rfl
    have C := hide (refSplit_calls ⟨s.toArray⟩ w (by simpa [ByteArray.size] using hs))
    rw [show (⟨s.toArray⟩ : ByteArray).data.toList = s from rfl] at C
    have hcnt := splitL_length s
    have hmem := hide (split_mem_len s)
    have HB := hide (fun h => parseM_bad (s := s) hne h)
    have HG := hide (fun h => parseM_good (s := s) hne h)
    replace hr := hide hr
    generalize splitL s = ws at *
    go_enter Tryd.func20, Tryd.ntmps20
    go_wp2_with (go_at_call 28; refine C.out.mono ?_; rintro e w1 ⟨vl, rfl, hownl, hB1⟩; obtain ⟨al, cl, rfl⟩ := ownsRow_slice hownl)
    have Hl := hide hownl
    clear hownl C
    go_loopw [5, 6] (fun vo iv wr => ∃ k : Nat, iv = .int .i64 (k : Int) ∧ k ≤ ws.length ∧ spansB (ws.take k) = true ∧ wr.ownsRow w1.heap.size 60 2 vo k (cellsM (spansOf (ws.take k))) ∧ Below w1.heap.size w1 wr) (fun _ iv _ => ws.length - (intOf iv).toNat)
    case atStart => exact ⟨0, rfl, Nat.zero_le _, rfl, World.ownsRow_nil _ _ _ _, Below.refl _ _⟩
    case round =>
      obtain ⟨k, rfl, hk, hsb, hown, hB⟩ := hrel
      have hbs := hB.size
      have hBw : Below w.heap.size w wr := hB1.trans (hB.mono hB1.size)
      by_cases hlt : k < ws.length
      · have hltI : (k : Int) < (ws.length : Int) := by omega
        obtain ⟨gl, rfl, hc⟩ : ∃ gl, al = some ⟨gl, 0, none⟩ ∧ wr.cell? ⟨gl, k, none⟩ = some (.string ⟨ws[k].toArray⟩) := by
          rcases Hl.out.2 with ⟨e, h0⟩ | ⟨gl, cap', cur, e, _⟩
          · omega
          · cases e
            refine ⟨gl, rfl, ?_⟩
            have hc := Hl.out.cellAt k (by omega)
            have hlt' := (Hl.out.lt gl rfl).2
            rw [hB.cell (p := ⟨gl, k, none⟩) hlt', hc]
            simp [strs, hlt]
        have hwl := hmem.out _ (List.getElem_mem hlt)
        have hs1 := hide (spansB_take_succ ws k hlt hsb)
        have hs2 := hide (spansOf_take_succ ws k hlt)
        have hs3 := hide (fun h => HB.out (spansB_bad ws k hlt h))
        generalize ws[k] = x at *
        have Fd := hide (refFind_calls ⟨x.toArray⟩ 47 0 wr (by simp [ByteArray.size]; omega) (by decide))
        rw [show (⟨x.toArray⟩ : ByteArray).data.toList = x from rfl] at Fd
        rcases find_range x 47 0 with hf | ⟨p, hf⟩
        · rw [hf] at Fd
          have hr1 : r = ([], 2) := by rw [← hr.out]; exact hs3.out (by rw [spanL_miss hf])
          subst hr1
          go_wp2_with (go_at_call 29; refine Fd.out.mono ?_; rintro e w2 ⟨rfl, rfl⟩)
          go_ret2
          exact ⟨_, rfl, World.ownsRow_nil _ _ _ _, hBw⟩
        · rw [hf] at Fd
          obtain ⟨hp1, hp2⟩ := spanL_hit hf
          have Na := hide fun w => refNumberAny_calls ⟨(x.take p).toArray⟩ w (by simp [ByteArray.size]; omega)
          have Nb := hide fun w => refNumberAny_calls ⟨(x.drop (p + 1)).toArray⟩ w (by simp [ByteArray.size]; omega)
          rw [show (⟨(x.take p).toArray⟩ : ByteArray).data.toList = x.take p from rfl] at Na
          rw [show (⟨(x.drop (p + 1)).toArray⟩ : ByteArray).data.toList = x.drop (p + 1) from rfl] at Nb
          have ex1 := extract_head x p
          have ex2 := extract_tail x (p + 1) x.length rfl
          generalize numL (x.take p) = na at *
          generalize numL (x.drop (p + 1)) = nb at *
          obtain ⟨a, ia⟩ := na
          obtain ⟨b, ib⟩ := nb
          dsimp only at *
          have hp1I : (p : Int) < (x.length : Int) := by omega
          cases ia with
          | false =>
            have hr1 : r = ([], 2) := by rw [← hr.out]; exact hs3.out (by rw [hp2, if_neg (by simp)])
            subst hr1
            clear hp2
            go_wp2_with (first | (go_at_call 29; refine Fd.out.mono ?_; rintro e w2 ⟨rfl, rfl⟩; clear Fd) | (go_at_call 30; refine (Na.out _).mono ?_; rintro e w2 ⟨rfl, rfl⟩; clear Na) | (go_at_call 30; refine (Nb.out _).mono ?_; rintro e w2 ⟨rfl, rfl⟩; clear Nb))
            go_ret2
            exact ⟨_, rfl, World.ownsRow_nil _ _ _ _, hBw⟩
          | true =>
            cases ib with
            | false =>
              have hr1 : r = ([], 2) := by rw [← hr.out]; exact hs3.out (by rw [hp2, if_neg (by simp)])
              subst hr1
              clear hp2
              go_wp2_with (first | (go_at_call 29; refine Fd.out.mono ?_; rintro e w2 ⟨rfl, rfl⟩; clear Fd) | (go_at_call 30; refine (Na.out _).mono ?_; rintro e w2 ⟨rfl, rfl⟩; clear Na) | (go_at_call 30; refine (Nb.out _).mono ?_; rintro e w2 ⟨rfl, rfl⟩; clear Nb))
              go_ret2
              exact ⟨_, rfl, World.ownsRow_nil _ _ _ _, hBw⟩
            | true =>
              rw [if_pos (by simp)] at hp2
              rw [hp2] at hs1 hs2
              clear hp2 hs3
              obtain ⟨ao, co, rfl⟩ := ownsRow_slice hown
              go_wp2_with (first | (go_at_call 29; refine Fd.out.mono ?_; rintro e w2 ⟨rfl, rfl⟩; clear Fd) | (go_at_call 30; refine (Na.out _).mono ?_; rintro e w2 ⟨rfl, rfl⟩; clear Na) | (go_at_call 30; refine (Nb.out _).mono ?_; rintro e w2 ⟨rfl, rfl⟩; clear Nb) | (at_builtin; refine wpList_append_own _ rfl (.tmp 56) _ 25 rfl w1.heap.size 60 i0 _ 2 16 Tryd.underlying25 hi0 hz0 hz1 hz2 rfl (by decide) _ _ _ rfl (World.ownsRow.alloc hown _) ⟨_, 0, none⟩ 1 1 [.int .i64 a, .int .i64 b] rfl rfl (two_new (by simp)) two_one (by unfold maxLen; omega) (by omega) (by simp; omega) ?_; intro v1 w3 hown1 hgrow1 _))
              have hB3 : Below w1.heap.size w1 w3 := (hB.alloc hbs _).grown hgrow1 (by simp; omega) (fun j hj => (hown.lt j hj).1)
              refine ⟨⟨k + 1, by go_num, by omega, hs1.out, ?_, hB3⟩, by simp [intOf]; omega⟩
              rw [hs2.out, cellsM_append]
              exact hown1
      · have hkl : k = ws.length := by omega
        subst hkl
        rw [List.take_length] at hsb hown
        have hg := HG.out hsb
        rw [hr.out] at hg
        have hlen : (spansOf ws).length = ws.length := by simp [spansOf]
        obtain ⟨ao, co, rfl⟩ := ownsRow_slice hown
        have hown' : OwnsR wr w1.heap.size (.slice ao ws.length co) (spansOf ws) := by rw [OwnsR, hlen]; exact hown
        have Ck := hide (refCheckMap_calls _ (spansOf ws) wr (OwnsR.map hown') (by omega))
        generalize spansOf ws = m at *
        by_cases hok : okMap m = true
        · rw [if_pos hok] at hg
          subst hg
          have hc0 : checkM m = 0 := by rw [checkM, if_pos hok]
          rw [hc0] at Ck
          go_wp2_with (go_at_call 15; refine Ck.out.mono ?_; rintro e w2 ⟨rfl, d, rfl⟩)
          go_ret2
          refine ⟨_, rfl, ?_, hBw.trans (below_draws d)⟩
          exact ownsRow_low (show (wr.drewN d).ownsRow _ _ _ _ _ _ from hown') hB1.size
        · rw [if_neg hok] at hg
          subst hg
          have hc0 : checkM m = 1 := by rw [checkM, if_neg hok]
          rw [hc0] at Ck
          go_wp2_with (go_at_call 15; refine Ck.out.mono ?_; rintro e w2 ⟨rfl, d, rfl⟩)
          go_ret2
          exact ⟨_, rfl, World.ownsRow_nil _ _ _ _, hBw.trans (below_draws d)⟩

end Go.Proofs.YtndhkbmgpjjepaaDoor

/- The laws' same of maps. Own work; no statement. -/
set_option linter.unusedSimpArgs false
set_option linter.unusedVariables false
namespace Go.Proofs.YtndhkbmgpjjepaaDoor
open Go.RowKit Go.Shelf

set_option maxHeartbeats 4000000 in
set_option maxRecDepth 100000 in
theorem same5_calls (va vb : Value) (a b : MapD) (w : World) (ha : IsMap w va a) (hb : IsMap w vb b) (hla : a.length ≤ 1099511627776) (hlb : b.length ≤ 1099511627776) :
    Calls Tryd.prog 16 #[va, vb] w fun e w' => e = .returned (.bool (decide (a = b))) ∧ ∃ d, w' = w.drewN d := by
  have Ha := hide ha
  have Hb := hide hb
  obtain ⟨aa, ca, rfl⟩ := ha.slice
  obtain ⟨ab, cb, rfl⟩ := hb.slice
  clear ha hb
  by_cases hlen : a.length = b.length
  · have hlI : ((a.length : Int) != (b.length : Int)) = false := by simp [hlen]
    obtain ⟨r, hr⟩ : ∃ r, decide (a = b) = r := ⟨_, rfl⟩
    rw [hr]
    replace hr := hide hr
    replace hlen := hide hlen
    go_enter Tryd.func16, Tryd.ntmps16
    go_wp2_with fail
    go_loopw [5] (fun iv wr => ∃ k d : Nat, iv = .int .i64 (k : Int) ∧ k ≤ a.length ∧ wr = w.drewN d ∧ a.take k = b.take k) (fun iv _ => a.length - (intOf iv).toNat)
    case atStart => exact ⟨0, 0, rfl, Nat.zero_le _, rfl, rfl⟩
    case round =>
      obtain ⟨k, d, rfl, hk, rfl, ht⟩ := hrel
      have Ht := hide ht
      clear ht
      by_cases hlt : k < a.length
      · have hlt2 : k < b.length := by have := hlen.out; omega
        have hltI : (k : Int) < (a.length : Int) := by omega
        have hltI2 : (k : Int) < (b.length : Int) := by omega
        obtain ⟨-, b1, o1, rfl, -, c0, c1⟩ := Ha.out.at k hlt
        obtain ⟨-, b2, o2, rfl, -, e0, e1⟩ := Hb.out.at k hlt2
        have d0 : (w.drewN d).cell? ⟨b1, o1 + k * 2, none⟩ = _ := c0
        have d1 : (w.drewN d).cell? ⟨b1, o1 + k * 2 + 1, none⟩ = _ := c1
        have d2 : (w.drewN d).cell? ⟨b2, o2 + k * 2, none⟩ = _ := e0
        have d3 : (w.drewN d).cell? ⟨b2, o2 + k * 2 + 1, none⟩ = _ := e1
        have hgrow : Hid (a.getD k (0, 0) = b.getD k (0, 0) → a.take (k + 1) = b.take (k + 1)) := fun e => by
          rw [getD_get a k hlt, getD_get b k hlt2] at e
          rw [List.take_add_one, List.take_add_one, List.getElem?_eq_getElem hlt, List.getElem?_eq_getElem hlt2, Ht.out, e]
        have hbad : Hid (¬ a.getD k (0, 0) = b.getD k (0, 0) → r = false) := fun h => by
          rw [← hr.out]
          exact decide_eq_false fun e => h (by rw [e])
        generalize a.getD k (0, 0) = x at *
        generalize b.getD k (0, 0) = y at *
        obtain ⟨p, q⟩ := x
        obtain ⟨s, t⟩ := y
        dsimp only at *
        by_cases h1 : p = s
        · by_cases h2 : q = t
          · subst h1 h2
            go_wp2_with fail
            go_quiet (fail)
            go_wp2
            exact ⟨⟨k + 1, d + nq, by go_num, by omega, rfl, hgrow.out (by first | rfl | trivial)⟩, by simp [intOf]; omega⟩
          · subst h1
            have h2b : (q == t) = false := by rw [beq_eq_false_iff_ne]; exact h2
            obtain rfl := hbad.out (fun e => h2 (congrArg Prod.snd e))
            go_wp2_with fail
            go_quiet (fail)
            go_wp2
            go_ret
            exact ⟨rfl, d + nq, World.drewN_drewN _ _ _⟩
        · have h1b : (p == s) = false := by rw [beq_eq_false_iff_ne]; exact h1
          obtain rfl := hbad.out (fun e => h1 (congrArg Prod.fst e))
          go_wp2_with fail
          go_quiet (fail)
          go_wp2
          go_ret
          exact ⟨rfl, d + nq, World.drewN_drewN _ _ _⟩
      · have e : k = a.length := by omega
        have hrt : r = true := by
          rw [← hr.out]
          have h := Ht.out
          rw [e, List.take_length, hlen.out, List.take_length] at h
          exact decide_eq_true h
        subst hrt
        go_wp2
        go_ret
        exact ⟨rfl, d, rfl⟩
  · have hlI : ((a.length : Int) != (b.length : Int)) = true := by simp; omega
    have hne : ¬ a = b := fun e => hlen (by rw [e])
    rw [decide_eq_false hne]
    go_enter Tryd.func16, Tryd.ntmps16
    go_wp2
    go_ret
    exact ⟨rfl, 0, rfl⟩

end Go.Proofs.YtndhkbmgpjjepaaDoor

/- The reference's MapText. Own work; no statement. -/
set_option linter.unusedSimpArgs false
set_option linter.unusedVariables false
namespace Go.Proofs.YtndhkbmgpjjepaaDoor
open Go.RowKit Go.Sort

set_option maxHeartbeats 4000000 in
set_option maxRecDepth 100000 in
theorem refMapText_calls (v : Value) (m : MapD) (w : World) (hv : IsMap w v m) (hl : m.length ≤ 1048576) (hr : MapR m) :
    Calls Tryd.prog 18 #[v] w fun e w' => e = .returned (.string ⟨(textM m).toArray⟩) ∧ Below w.heap.size w w' := by
  have Hv := hide hv
  obtain ⟨a, cap, rfl⟩ := hv.slice
  have HR := hide hr
  clear hv hr
  go_enter Tryd.func18, Tryd.ntmps18
  go_wp2_with fail
  go_loopw [3, 4] (fun sv iv wr => ∃ k : Nat, iv = .int .i64 (k : Int) ∧ k ≤ m.length ∧ sv = .string ⟨(spansTo m k).toArray⟩ ∧ Below w.heap.size w wr) (fun _ iv _ => m.length - (intOf iv).toNat)
  case atStart => exact ⟨0, rfl, Nat.zero_le _, rfl, Below.refl _ _⟩
  case round =>
    obtain ⟨k, rfl, hk, rfl, hB⟩ := hrel
    have hsl := spansTo_length HR.out k
    have hbs := hB.size
    by_cases hlt : k < m.length
    · have hltI : (k : Int) < (m.length : Int) := by omega
      obtain ⟨-, b, o, rfl, -, c0, c1⟩ := (Hv.out.below hB).at k hlt
      have hxr := getD_mapR HR.out k
      have hsc : Hid (spansTo m (k + 1) = spansTo m k ++ ((if k = 0 then [] else [32]) ++ spanB (m.getD k (0, 0)))) := rfl
      generalize m.getD k (0, 0) = x at *
      obtain ⟨p, q⟩ := x
      dsimp only at *
      have l1 := Lib.itoa_length_le p hxr.1.1 hxr.1.2
      have l2 := Lib.itoa_length_le q hxr.2.1 hxr.2.2
      have k0 := cell_regrown c0
      have k1 := cell_regrown c1
      have q1 := hide (fun d os => Calls.regrown_of (refDecimal_calls p (grow (redrawn wr d) os) hxr.1.1 hxr.1.2))
      have q2 := hide (fun d os => Calls.regrown_of (refDecimal_calls q (grow (redrawn wr d) os) hxr.2.1 hxr.2.2))
      have z0 : (⟨(spansTo m k).toArray⟩ : ByteArray).size ≤ 44 * k := by simpa [ByteArray.size] using hsl
      have z1 : (⟨(Lib.itoa p).toArray⟩ : ByteArray).size ≤ 21 := by simpa [ByteArray.size] using l1
      have z2 : (⟨(Lib.itoa q).toArray⟩ : ByteArray).size ≤ 21 := by simpa [ByteArray.size] using l2
      have hjoin : Hid (∀ S0 S1 S2 : ByteArray, S0 = ⟨(spansTo m k).toArray⟩ → S1 = ⟨(Lib.itoa p).toArray⟩ → S2 = ⟨(Lib.itoa q).toArray⟩ → (k = 0 → S0 ++ S1 ++ ⟨#[47]⟩ ++ S2 = ⟨(spansTo m (k + 1)).toArray⟩) ∧ (¬ k = 0 → S0 ++ ⟨#[32]⟩ ++ S1 ++ ⟨#[47]⟩ ++ S2 = ⟨(spansTo m (k + 1)).toArray⟩)) := by
        rintro S0 S1 S2 rfl rfl rfl
        constructor
        · intro h0
          apply ByteArray.ext
          rw [hsc.out, if_pos h0]
          simp [spanB]
        · intro h0
          apply ByteArray.ext
          rw [hsc.out, if_neg h0]
          simp [spanB]
      replace hjoin := hide (hjoin.out _ _ _ rfl rfl rfl)
      generalize (⟨(spansTo m k).toArray⟩ : ByteArray) = S0 at *
      generalize (⟨(Lib.itoa p).toArray⟩ : ByteArray) = S1 at *
      generalize (⟨(Lib.itoa q).toArray⟩ : ByteArray) = S2 at *
      by_cases hk0 : k = 0
      · have hk1 : ¬ 0 < (k : Int) := by omega
        have hj := hide (hjoin.out.1 hk0)
        have n1 : ¬ 9223372036854775807 < S0.size + S1.size := by omega
        have n2 : ¬ 9223372036854775807 < S0.size + S1.size + 1 := by omega
        have n3 : ¬ 9223372036854775807 < S0.size + S1.size + 1 + S2.size := by omega
        clear hk0
        go_wp2_with fail
        refine wp_region_quiet_below (by kernel_rfl) (by kernel_rfl) ?_
        first | go_big_quiet_step (fail) | quiet_step (fail)
        first | go_big_quiet_step (fail) | quiet_step (fail)
        first | go_big_quiet_step (fail) | quiet_step (fail)
        first | go_big_quiet_step (fail) | quiet_step (fail)
        first | go_big_quiet_step (fail) | quiet_step (fail)
        first | go_big_quiet_step (fail) | quiet_step (fail)
        first | go_big_quiet_step (exact q1.out _ _) | quiet_step (exact q1.out _ _)
        first | go_big_quiet_step (fail) | quiet_step (fail)
        first | go_big_quiet_step (fail) | quiet_step (fail)
        first | go_big_quiet_step (fail) | quiet_step (fail)
        first | go_big_quiet_step (fail) | quiet_step (fail)
        first | go_big_quiet_step (fail) | quiet_step (fail)
        first | go_big_quiet_step (fail) | quiet_step (fail)
        first | go_big_quiet_step (fail) | quiet_step (fail)
        first | go_big_quiet_step (exact q2.out _ _) | quiet_step (exact q2.out _ _)
        first | go_big_quiet_step (fail) | quiet_step (fail)
        first | go_big_quiet_step (fail) | quiet_step (fail)
        refine wpQuiet_nil ?_
        intro _ hw'
        obtain ⟨⟨dq, osq⟩, hw''⟩ := hw'
        subst hw''
        go_wp2
        exact ⟨⟨k + 1, by go_num, by omega, by first | rw [← hj.out] | (rw [← hj.out]; simp [ByteArray.append_assoc]), hB.trans ((below_regrown wr dq osq).mono hbs)⟩, by simp [intOf]; omega⟩
      · have hk1 : 0 < (k : Int) := by omega
        have hj := hide (hjoin.out.2 hk0)
        have n0 : ¬ 9223372036854775807 < S0.size + 1 := by omega
        have n1 : ¬ 9223372036854775807 < S0.size + 1 + S1.size := by omega
        have n2 : ¬ 9223372036854775807 < S0.size + 1 + S1.size + 1 := by omega
        have n3 : ¬ 9223372036854775807 < S0.size + 1 + S1.size + 1 + S2.size := by omega
        clear hk0
        go_wp2_with fail
        refine wp_region_quiet_below (by kernel_rfl) (by kernel_rfl) ?_
        first | go_big_quiet_step (fail) | quiet_step (fail)
        first | go_big_quiet_step (fail) | quiet_step (fail)
        first | go_big_quiet_step (fail) | quiet_step (fail)
        first | go_big_quiet_step (fail) | quiet_step (fail)
        first | go_big_quiet_step (fail) | quiet_step (fail)
        first | go_big_quiet_step (fail) | quiet_step (fail)
        first | go_big_quiet_step (exact q1.out _ _) | quiet_step (exact q1.out _ _)
        first | go_big_quiet_step (fail) | quiet_step (fail)
        first | go_big_quiet_step (fail) | quiet_step (fail)
        first | go_big_quiet_step (fail) | quiet_step (fail)
        first | go_big_quiet_step (fail) | quiet_step (fail)
        first | go_big_quiet_step (fail) | quiet_step (fail)
        first | go_big_quiet_step (fail) | quiet_step (fail)
        first | go_big_quiet_step (fail) | quiet_step (fail)
        first | go_big_quiet_step (exact q2.out _ _) | quiet_step (exact q2.out _ _)
        first | go_big_quiet_step (fail) | quiet_step (fail)
        first | go_big_quiet_step (fail) | quiet_step (fail)
        refine wpQuiet_nil ?_
        intro _ hw'
        obtain ⟨⟨dq, osq⟩, hw''⟩ := hw'
        subst hw''
        go_wp2
        exact ⟨⟨k + 1, by go_num, by omega, by first | rw [← hj.out] | (rw [← hj.out]; simp [ByteArray.append_assoc]), hB.trans ((below_regrown wr dq osq).mono hbs)⟩, by simp [intOf]; omega⟩
    · have e : k = m.length := by omega
      subst e
      go_wp2
      go_ret
      exact ⟨rfl, hB⟩

end Go.Proofs.YtndhkbmgpjjepaaDoor

/- The reference's AddSpan. Own work; no statement. -/
set_option linter.unusedSimpArgs false
set_option linter.unusedVariables false
namespace Go.Proofs.YtndhkbmgpjjepaaDoor
open Go.RowKit Go.Shelf

set_option maxHeartbeats 4000000 in
set_option maxRecDepth 100000 in
theorem refAddSpan_calls (v : Value) (m : MapD) (f n : Int) (w : World) (hv : IsMap w v m) (hl : m.length + 1 ≤ 1099511627776) :
    Calls Tryd.prog 13 #[v, .int .i64 f, .int .i64 n] w fun e w' => ∃ v', e = .returned (.tuple #[v', .int .i64 (checkM (m ++ [(f, n)]))]) ∧ OwnsR w' w.heap.size v' (addM m f n) ∧ Below w.heap.size w w' := by
  obtain ⟨i0, hi0, hz0, hz1, hz2⟩ := info_parts Tryd.info60
  obtain ⟨a, cap, rfl⟩ := hv.slice
  have Hs := hide (hv.below ((Below.refl _ w).alloc (Nat.le_refl _) (.cells #[] 60))).src
  have h0 : (w.alloc (.cells #[] 60)).ownsRow w.heap.size 60 2 (.slice (some ⟨w.heap.size, 0, none⟩) 0 0) 0 [] := World.ownsRow_made w #[] 0 (Nat.le_refl _) (Nat.zero_le _) (by simp)
  clear hv
  have Hb : Hid (∀ w2, (w.alloc (.cells #[] 60)).grownBy w2 (Value.slice (some ⟨w.heap.size, 0, none⟩) 0 0).ownBlock → Below w.heap.size w w2) := fun w2 hg => ((Below.refl _ w).alloc (Nat.le_refl _) _).grown hg (by simp) (fun k e => by cases e; exact Nat.le_refl _)
  have HO : Hid (∀ v3 w3, World.ownsRow w3 w.heap.size 60 2 v3 (m.length + 1) (cellsM m ++ [.int .i64 f, .int .i64 n]) → OwnsR w3 w.heap.size v3 (m ++ [(f, n)])) := fun v3 w3 h => by
    rw [OwnsR, List.length_append, cellsM_append]
    exact h
  have HL : Hid ((m ++ [(f, n)]).length ≤ 1099511627776) := hide (by simpa using hl)
  by_cases hok : okMap (m ++ [(f, n)]) = true
  · have HC : Hid (checkM (m ++ [(f, n)]) = 0) := by show _ = _; rw [checkM, if_pos hok]
    have HA : Hid (addM m f n = m ++ [(f, n)]) := by show _ = _; rw [addM, if_pos hok]
    rw [HC.out, HA.out]
    go_enter Tryd.func13, Tryd.ntmps13
    go_wp2_with (first | (go_at_call 15; refine Ck.out.mono ?_; rintro e w4 ⟨rfl, d, rfl⟩) | (at_builtin; refine wpList_append_own _ rfl (.tmp 11) _ 25 rfl w.heap.size 60 i0 _ 2 16 Tryd.underlying25 hi0 hz0 hz1 hz2 rfl (by decide) _ _ _ rfl (World.ownsRow.alloc hown2 _) ⟨_, 0, none⟩ 1 1 [.int .i64 f, .int .i64 n] rfl rfl (two_new (by simp)) two_one (by unfold maxLen; omega) (by omega) (by simp; omega) ?_; intro v3 w3 hown3 hgrow3 _; have hB3 : Below w.heap.size w w3 := (hB2.alloc hs2 _).grown hgrow3 (by simp; omega) (fun j hj => (hown2.lt j hj).1); have hO3 : OwnsR w3 w.heap.size v3 (m ++ [(f, n)]) := HO.out v3 w3 hown3; have Ck := hide (refCheckMap_calls v3 (m ++ [(f, n)]) w3 (OwnsR.map hO3) HL.out); rw [HC.out] at Ck; obtain ⟨a3, c3, rfl⟩ := ownsRow_slice hown3; clear hgrow3 hown2 hown3) | (at_builtin; refine wpList_append_srcM rfl _ _ 25 rfl w.heap.size 60 i0 _ 2 16 Tryd.underlying25 hi0 hz0 hz1 hz2 rfl (by decide) _ _ _ rfl h0 _ m.length (cellsM m) rfl Hs.out (cellsM_length m) (cellsM_one m) (by unfold maxLen; omega) (by omega) (by simp) ?_; intro v2 w2 hown2 hgrow2; have hB2 : Below w.heap.size w w2 := Hb.out w2 hgrow2; have hs2 := hB2.size; rw [Nat.zero_add, List.nil_append] at hown2; clear h0 Hs))
    go_ret2
    exact ⟨_, rfl, hO3, hB3.trans (below_draws d)⟩
  · have HC : Hid (checkM (m ++ [(f, n)]) = 1) := by show _ = _; rw [checkM, if_neg hok]
    have HA : Hid (addM m f n = []) := by show _ = _; rw [addM, if_neg hok]
    rw [HC.out, HA.out]
    go_enter Tryd.func13, Tryd.ntmps13
    go_wp2_with (first | (go_at_call 15; refine Ck.out.mono ?_; rintro e w4 ⟨rfl, d, rfl⟩) | (at_builtin; refine wpList_append_own _ rfl (.tmp 11) _ 25 rfl w.heap.size 60 i0 _ 2 16 Tryd.underlying25 hi0 hz0 hz1 hz2 rfl (by decide) _ _ _ rfl (World.ownsRow.alloc hown2 _) ⟨_, 0, none⟩ 1 1 [.int .i64 f, .int .i64 n] rfl rfl (two_new (by simp)) two_one (by unfold maxLen; omega) (by omega) (by simp; omega) ?_; intro v3 w3 hown3 hgrow3 _; have hB3 : Below w.heap.size w w3 := (hB2.alloc hs2 _).grown hgrow3 (by simp; omega) (fun j hj => (hown2.lt j hj).1); have hO3 : OwnsR w3 w.heap.size v3 (m ++ [(f, n)]) := HO.out v3 w3 hown3; have Ck := hide (refCheckMap_calls v3 (m ++ [(f, n)]) w3 (OwnsR.map hO3) HL.out); rw [HC.out] at Ck; obtain ⟨a3, c3, rfl⟩ := ownsRow_slice hown3; clear hgrow3 hown2 hown3) | (at_builtin; refine wpList_append_srcM rfl _ _ 25 rfl w.heap.size 60 i0 _ 2 16 Tryd.underlying25 hi0 hz0 hz1 hz2 rfl (by decide) _ _ _ rfl h0 _ m.length (cellsM m) rfl Hs.out (cellsM_length m) (cellsM_one m) (by unfold maxLen; omega) (by omega) (by simp) ?_; intro v2 w2 hown2 hgrow2; have hB2 : Below w.heap.size w w2 := Hb.out w2 hgrow2; have hs2 := hB2.size; rw [Nat.zero_add, List.nil_append] at hown2; clear h0 Hs))
    go_ret2
    exact ⟨_, rfl, World.ownsRow_nil _ _ _ _, hB3.trans (below_draws d)⟩

end Go.Proofs.YtndhkbmgpjjepaaDoor

/- What the proofs of the statements share: slices that came in. Own work; no statement. -/
set_option linter.unusedSimpArgs false
set_option linter.unusedVariables false
namespace Go.Proofs.YtndhkbmgpjjepaaDoor
open Go.ChangeShapes Go.WideShapes Go.ChangeAt Go.RowKit

theorem own : ownKnob Tryd.prog.godebug = none := by kernel_rfl
theorem laidOut : laidOutB Tryd.prog = true := by kernel_rfl

/-- A slice of integers that came in: what it reads as; its numbers fit their kind. -/
theorem nums_of_open {H : Type} {enc : TypeId × Value → H} {W : World} {base : Nat} {sp : Nat → Bool} {held : Bool} {t e : TypeId} {k : IntKind} {fuel : Nat} {a : Option Addr} {len cap : Nat} {x : DataW H × List MemPlace}
    (ht : Tryd.prog.underlying t = some (.slice e)) (he : Tryd.prog.underlying e = some (.int k)) (hc : Tryd.prog.cellsOf e = 1) (h : DataW.trod enc Tryd.prog W base sp held fuel t [.slice a len cap] = some x) (hsp : ∀ b, sp b = true) :
    ∃ zs : List Int, IsNums k W (.slice a len cap) zs ∧ (∀ n ∈ zs, (Lit.int k n).wf = true) := by
  rcases open_ints ht he hc h with ⟨hcs, _⟩ | ⟨y, l, c, zs, hcs, _, hl, hm, hz, _, hcell, hwz⟩
  · simp at hcs
    obtain ⟨rfl, rfl, rfl⟩ := hcs
    exact ⟨[], IsNums.nil _ _ _ _, fun n hn => absurd hn (by simp)⟩
  · simp at hcs
    obtain ⟨rfl, rfl, rfl⟩ := hcs
    rw [hsp, if_pos rfl] at hz
    have hlen : (zs.take len).length = len := by simp; omega
    refine ⟨zs.take len, ⟨some y, cap, by rw [hlen], by omega, fun i hi => ?_⟩, fun n hn => hwz n (List.mem_of_mem_take hn)⟩
    obtain ⟨b, off, rfl, hc'⟩ := ints_at hcell (by omega)
    refine ⟨b, off, rfl, ?_⟩
    rw [hc' i (by omega)]
    simp [List.getD, List.getElem?_take, show i < len by omega]

end Go.Proofs.YtndhkbmgpjjepaaDoor
