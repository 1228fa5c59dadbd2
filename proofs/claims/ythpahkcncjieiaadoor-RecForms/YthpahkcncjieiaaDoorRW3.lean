/- Plain laws: a record's parts, found place by place. Own work; no statement. -/
import Derived.Test.YthpahkcncjieiaaDoorRefG
import Derived.Test.YthpahkcncjieiaaDoorRW2
set_option linter.unusedSimpArgs false
set_option linter.unusedVariables false
namespace Go.Proofs.YthpahkcncjieiaaDoor

theorem find_range (l : List UInt8) (c : UInt8) (i : Nat) : findL l c i = -1 ∨ ∃ k : Nat, findL l c i = k := by
  unfold findL
  split
  · exact .inl rfl
  · have := Lib.indexByte_ge (l.drop i) c
    exact .inr ⟨(i + Lib.indexByte (l.drop i) c).toNat, by omega⟩

theorem find_cut {l : List UInt8} {c : UInt8} {i k : Nat} (h : findL l c i = k) : i ≤ k ∧ k < l.length ∧ Lib.indexByte (l.drop i) c = ((k - i : Nat) : Int) ∧ cutL (l.drop i) c = ((l.drop i).take (k - i), l.drop (k + 1), true) := by
  unfold findL at h
  split at h
  · omega
  · rename_i hn
    have h1 := Lib.indexByte_ge (l.drop i) c
    have h2 := indexByte_lt (l.drop i) c
    rw [List.length_drop] at h2
    have e : Lib.indexByte (l.drop i) c = ((k - i : Nat) : Int) := by omega
    refine ⟨by omega, by omega, e, ?_⟩
    unfold cutL
    rw [e, if_neg (by omega), Int.toNat_natCast, List.drop_drop, show i + (k - i + 1) = k + 1 by omega]

theorem find_none {l : List UInt8} {c : UInt8} {i : Nat} (h : findL l c i = -1) : Lib.indexByte (l.drop i) c = -1 ∧ (cutL (l.drop i) c).2.2 = false := by
  unfold findL at h
  split at h
  · rename_i hn
    refine ⟨hn, ?_⟩
    unfold cutL
    rw [if_pos hn]
  · have h1 := Lib.indexByte_ge (l.drop i) c
    omega

theorem find_at {l : List UInt8} {c : UInt8} {i k : Nat} (h : findL l c i = k) : l[k]? = some c := by
  obtain ⟨h1, h2, -, h4⟩ := find_cut h
  have h5 := @cut_form (l.drop i) c (by rw [h4])
  rw [h4] at h5
  have h6 : (l.drop i)[k - i]? = some c := by
    rw [h5]
    dsimp only
    have hl : ((l.drop i).take (k - i)).length = k - i := by simp; omega
    rw [List.getElem?_append_right (by omega), hl, Nat.sub_self]
    rfl
  rwa [List.getElem?_drop, show i + (k - i) = k by omega] at h6

theorem find_step {l : List UInt8} {c x : UInt8} {i : Nat} (h : l[i]? = some x) (hx : x ≠ c) : findL l c i = findL l c (i + 1) := by
  obtain ⟨hi, rfl⟩ := List.getElem?_eq_some_iff.1 h
  unfold findL
  rw [List.drop_eq_getElem_cons hi]
  have hb : (l[i] == c) = false := by simpa using hx
  have hg := Lib.indexByte_ge (l.drop (i + 1)) c
  simp only [Lib.indexByte, hb]
  by_cases hn : Lib.indexByte (l.drop (i + 1)) c = -1
  · simp [hn]
  · simp [hn]
    omega

theorem none_parse {l : List UInt8} (h : splitR l = none) : parseR l = (zeroR, 2) := by
  unfold parseR
  rw [h]
  rfl

theorem at_a {l : List UInt8} (h : findL l 58 0 = -1) : splitR l = none := by
  have h1 := (find_none h).2
  rw [List.drop_zero] at h1
  unfold splitR
  dsimp only
  rw [if_neg (by simp [h1])]

theorem cut_a {l : List UInt8} {a : Nat} (h : findL l 58 0 = a) : a < l.length ∧ cutL l 58 = (l.take a, l.drop (a + 1), true) := by
  obtain ⟨-, h2, -, h4⟩ := find_cut h
  rw [List.drop_zero, Nat.sub_zero] at h4
  exact ⟨h2, h4⟩

theorem at_b {l : List UInt8} {a : Nat} (h : findL l 58 0 = a) (h' : findL l 32 a = -1) : splitR l = none := by
  have ha := (cut_a h).2
  rw [find_step (find_at h) (by decide)] at h'
  have h1 := (find_none h').2
  unfold splitR
  dsimp only
  rw [ha]
  dsimp only
  rw [if_neg (by simp [h1])]

theorem cut_b {l : List UInt8} {a b : Nat} (h : findL l 58 0 = a) (h' : findL l 32 a = b) : a < b ∧ b < l.length ∧ cutL (l.drop (a + 1)) 32 = ((l.drop (a + 1)).take (b - (a + 1)), l.drop (b + 1), true) := by
  rw [find_step (find_at h) (by decide)] at h'
  obtain ⟨h1, h2, -, h4⟩ := find_cut h'
  exact ⟨by omega, h2, h4⟩

theorem at_c {l : List UInt8} {a b : Nat} (ha : findL l 58 0 = a) (hb : findL l 32 a = b) (hc : findL l 93 b = -1) : splitR l = none := by
  rw [find_step (find_at hb) (by decide)] at hc
  have h1 := (find_none hc).1
  unfold splitR
  dsimp only
  rw [(cut_a ha).2]
  dsimp only
  rw [(cut_b ha hb).2.2]
  dsimp only
  rw [h1, if_neg (by simp)]

theorem cut_c {l : List UInt8} {b c : Nat} {a : Nat} (hb : findL l 32 a = b) (hc : findL l 93 b = c) : b < c ∧ c < l.length ∧ Lib.indexByte (l.drop (b + 1)) 93 = ((c - (b + 1) : Nat) : Int) := by
  rw [find_step (find_at hb) (by decide)] at hc
  obtain ⟨h1, h2, h3, -⟩ := find_cut hc
  exact ⟨by omega, h2, h3⟩

theorem prefix_head (r : List UInt8) (x : UInt8) : Lib.hasPrefix r [x] = decide (r.head? = some x) := by
  cases r with
  | nil => simp [Lib.hasPrefix, List.isPrefixOf]
  | cons y r =>
    simp only [Lib.hasPrefix, List.isPrefixOf, Bool.and_true, List.head?_cons, Option.some.injEq]
    by_cases h : x = y
    · simp [h]
    · have h' : ¬ y = x := fun e => h e.symm
      simp [h, h']

/-- Where the middle is found, what splitR sees. -/
theorem split_c {l : List UInt8} {a b c : Nat} (ha : findL l 58 0 = a) (hb : findL l 32 a = b) (hc : findL l 93 b = c) :
    splitR l = if l[c + 1]? = some 32 ∧ (cutL (Lib.trimPrefix (l.drop (c + 1)) [32]) 61).2.2 = true then some ⟨l.take a, (l.drop (a + 1)).take (b - (a + 1)), (l.drop (b + 1)).take (c - b), (cutL (Lib.trimPrefix (l.drop (c + 1)) [32]) 61).1, (cutL (Lib.trimPrefix (l.drop (c + 1)) [32]) 61).2.1⟩ else none := by
  obtain ⟨k1, k2, k3⟩ := cut_c hb hc
  unfold splitR
  dsimp only
  rw [(cut_a ha).2]
  dsimp only
  rw [(cut_b ha hb).2.2]
  dsimp only
  rw [k3, show (((c - (b + 1) : Nat) : Int) + 1).toNat = c - b by omega, List.drop_drop, show b + 1 + (c - b) = c + 1 by omega, prefix_head, List.head?_drop]
  have hne : c - b ≠ 0 := by omega
  simp only [true_and, decide_eq_true_eq, ne_eq, hne, not_false_eq_true]

theorem at_sp {l : List UInt8} {a b c : Nat} (ha : findL l 58 0 = a) (hb : findL l 32 a = b) (hc : findL l 93 b = c) (h : ¬ l[c + 1]? = some 32) : splitR l = none := by
  rw [split_c ha hb hc, if_neg (fun hh => h hh.1)]

theorem trim_sp {l : List UInt8} {c : Nat} (h : l[c + 1]? = some 32) : Lib.trimPrefix (l.drop (c + 1)) [32] = l.drop (c + 2) := by
  unfold Lib.trimPrefix
  rw [prefix_head, List.head?_drop, h]
  simp

theorem at_d {l : List UInt8} {a b c : Nat} (ha : findL l 58 0 = a) (hb : findL l 32 a = b) (hc : findL l 93 b = c) (h : l[c + 1]? = some 32) (hd : findL l 61 c = -1) : splitR l = none := by
  rw [find_step (find_at hc) (by decide), find_step h (by decide)] at hd
  have h1 := (find_none hd).2
  rw [split_c ha hb hc, trim_sp h, if_neg (by simp [h1])]

theorem at_all {l : List UInt8} {a b c d : Nat} (ha : findL l 58 0 = a) (hb : findL l 32 a = b) (hc : findL l 93 b = c) (h : l[c + 1]? = some 32) (hd : findL l 61 c = d) :
    splitR l = some ⟨l.take a, (l.drop (a + 1)).take (b - (a + 1)), (l.drop (b + 1)).take (c - b), (l.drop (c + 2)).take (d - (c + 2)), l.drop (d + 1)⟩ ∧ c + 2 ≤ d ∧ d < l.length := by
  rw [find_step (find_at hc) (by decide), find_step h (by decide)] at hd
  obtain ⟨h1, h2, -, h4⟩ := find_cut hd
  rw [split_c ha hb hc, trim_sp h, h4]
  dsimp only
  rw [if_pos ⟨h, rfl⟩]
  exact ⟨rfl, h1, h2⟩

/-- Where no bracket stands, it is no record. -/
theorem no_bracket {l : List UInt8} {a b : Nat} (ha : findL l 58 0 = a) (hb : findL l 32 a = b) (h : ¬ l[b + 1]? = some 91) : parseR l = (zeroR, 2) := by
  rcases find_range l 93 b with hc | ⟨c, hc⟩
  · exact none_parse (at_c ha hb hc)
  · by_cases hs : l[c + 1]? = some 32
    · rcases find_range l 61 c with hd | ⟨d, hd⟩
      · exact none_parse (at_d ha hb hc hs hd)
      · have hp := (at_all ha hb hc hs hd).1
        have hbc := cut_c hb hc
        have hbr : parseL ((l.drop (b + 1)).take (c - b)) = ([], 2) := by
          unfold parseL bracketB
          rw [prefix_head, if_neg]
          have : ((l.drop (b + 1)).take (c - b)).head? = l[b + 1]? := by
            rw [List.head?_take, if_neg (by omega), List.head?_drop]
          rw [this, decide_eq_false h]
          simp
        unfold parseR
        rw [hp]
        dsimp only
        unfold parseP
        rw [hbr]
        dsimp only
        split
        · rw [if_neg (by decide)]
        · rfl
    · exact none_parse (at_sp ha hb hc hs)

end Go.Proofs.YthpahkcncjieiaaDoor
