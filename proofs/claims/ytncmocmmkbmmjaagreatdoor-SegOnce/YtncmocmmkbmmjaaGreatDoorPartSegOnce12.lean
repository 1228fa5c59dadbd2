/- Own work: the parts S22, S23, WSegOnce, FrameP of the proof, laid together. -/
import Derived.Test.YtncmocmmkbmmjaaGreatDoorPartSegOnce11
import Derived.OpenShut
import Derived.Test.YtncmocmmkbmmjaaGreatDoorPartSegOnce1
import Derived.ProofKit
import Derived.ShutString
import Derived.ChangeOld
import Derived.Deep.DeepHandedRow
/- Lines that tell of a segment what it is: replayed they make it again. Pure laws. Own work; no statement. -/
set_option linter.unusedSimpArgs false
set_option linter.unusedVariables false
namespace Go.Proofs.YtncmocmmkbmmjaaGreatDoor

/-- Its disk's lines, one by one let hold, make the segment. -/
def Replay (S : SegD) : Prop := runE (emptyS S.D) S.D.lines 0 = (S, S.D.lines.length)

theorem applyS_with (S : SegD) (D : DiskD) (e : EntD) (k : Nat) : applyS { S with D := D } e k = { applyS S e k with D := D } := by
  unfold applyS
  repeat' split
  all_goals rfl

theorem runE_D (D : DiskD) : ∀ (l : List ByteArray) (S : SegD) (k : Nat), runE { S with D := D } l k = ({ (runE S l k).1 with D := D }, (runE S l k).2)
  | [], S, k => rfl
  | s :: l, S, k => by
    unfold runE
    cases parseE s.data.toList with
    | none => rfl
    | some e =>
      dsimp only
      rw [mayS_D]
      by_cases h : mayS S e = true
      · rw [if_pos h, if_pos h, applyS_with, runE_D D l]
      · rw [if_neg h, if_neg h]

theorem runE_snoc : ∀ (l : List ByteArray) (S S' : SegD) (k : Nat) (s : ByteArray) (e : EntD), runE S l k = (S', k + l.length) → parseE s.data.toList = some e → mayS S' e = true → runE S (l ++ [s]) k = (applyS S' e (k + l.length), k + l.length + 1)
  | [], S, S', k, s, e, h, hp, hm => by
    simp only [runE, List.length_nil, Nat.add_zero, Prod.mk.injEq, and_true] at h
    subst h
    simp only [List.nil_append, List.length_nil, Nat.add_zero]
    unfold runE
    rw [hp]
    dsimp only
    rw [if_pos hm]
    rfl
  | t :: l, S, S', k, s, e, h, hp, hm => by
    have hne : ∀ (n : Nat), k ≠ k + (n + 1) := fun n => by omega
    rw [List.cons_append]
    unfold runE at h ⊢
    cases ht : parseE t.data.toList with
    | none =>
      rw [ht] at h
      simp at h
    | some f =>
      rw [ht] at h
      dsimp only at h ⊢
      by_cases hf : mayS S f = true
      · rw [if_pos hf] at h ⊢
        have e1 : k + (t :: l).length = k + 1 + l.length := by simp; omega
        rw [e1] at h
        rw [e1]
        exact runE_snoc l _ S' (k + 1) s e h hp hm
      · rw [if_neg hf] at h
        simp at h

theorem replay_new (D : DiskD) (h : D.lines = []) : Replay (emptyS D) := by
  unfold Replay
  rw [show (emptyS D).D = D from rfl, h]
  rfl
theorem Replay.lasts {S : SegD} (h : Replay S) (D : DiskD) (hl : D.lines = S.D.lines) : Replay { S with D := D } := by
  unfold Replay at *
  dsimp only
  rw [hl]
  have := runE_D D S.D.lines (emptyS S.D) 0
  rw [h] at this
  exact this
theorem Replay.add {S : SegD} {e : EntD} (h : Replay S) (hm : mayS S e = true) (hp : parseE (textE e).data.toList = some e) (he : addE S e = 0) : Replay (addS S e) := by
  have hl := writeD_lines (D := S.D) (s := textE e) he
  have h1 : runE (emptyS S.D) (S.D.lines ++ [textE e]) 0 = (applyS S e S.D.lines.length, S.D.lines.length + 1) := by
    have := runE_snoc S.D.lines (emptyS S.D) S 0 (textE e) e (by rw [Nat.zero_add]; exact h) hp hm
    rwa [Nat.zero_add] at this
  have h2 := runE_D (writeD S.D (textE e)) (S.D.lines ++ [textE e]) (emptyS S.D) 0
  rw [h1] at h2
  unfold addS
  rw [if_pos he]
  unfold Replay
  rw [applyS_D]
  dsimp only
  rw [hl, applyS_with]
  simp only [List.length_append, List.length_singleton]
  exact h2
theorem Replay.last {S : SegD} {e : EntD} (h : Replay S) (hm : mayS S e = true) (hp : parseE (textE e).data.toList = some e) : Replay (lastS S e) := by
  unfold lastS
  by_cases he : addE S e = 0
  · rw [if_pos he]
    exact (h.add hm hp he).lasts _ rfl
  · rw [if_neg he]
    exact h
theorem Replay.open {S : SegD} (h : Replay S) : openS S.D = S := by
  unfold openS
  rw [h]
  dsimp only
  unfold openD
  rw [if_neg (by omega)]

/-! An entry in words. -/
theorem textE_list (e : EntD) : (textE e).data.toList = e.sign :: 32 :: (Lib.itoa e.n ++ (if e.sign = 112 then 32 :: (textR e.r).data.toList else [])) := by
  unfold textE
  split <;> simp [ByteArray.data_append]

theorem parse_textE {e : EntD} (h : EntW e) : parseE (textE e).data.toList = some { e with r := backR e.r } := by
  rw [textE_list, parseE_eq]
  have hs : e.sign ≠ 32 := by rcases h.sign with h | h | h | h <;> rw [h] <;> decide
  have hc : cutL (e.sign :: 32 :: (Lib.itoa e.n ++ (if e.sign = 112 then 32 :: (textR e.r).data.toList else []))) 32 = ([e.sign], Lib.itoa e.n ++ (if e.sign = 112 then 32 :: (textR e.r).data.toList else []), true) :=
    cut_at [e.sign] _ 32 (fun c hc => by rw [List.mem_singleton] at hc; rw [hc]; exact hs)
  rw [hc]
  dsimp only
  obtain ⟨sign, n, r⟩ := e
  dsimp only at *
  have hn := numL_itoa h.low h.high
  dsimp only at hn
  have hnum : ∀ c : UInt8, c ≠ 112 → sign = c → numE c (Lib.itoa n ++ (if sign = 112 then 32 :: (textR r).data.toList else [])) = some ⟨sign, n, backR r⟩ := by
    intro c hc e
    subst e
    have hz := h.zero hc
    dsimp only at hz
    rw [if_neg hc, List.append_nil, hz]
    unfold numE
    rw [hn]
    simp [backR, zeroR]
  rcases h.sign with hs' | hs' | hs' | hs'
  · have hs' : sign = 112 := hs'
    subst hs'
    rw [if_pos rfl, if_pos rfl]
    unfold putE
    rw [cut_at _ _ 32 (itoa_ne h.low (by decide))]
    dsimp only
    rw [hn, parse_textR (h.put rfl)]
    simp
  · have hs' : sign = 115 := hs'
    rw [if_neg (by rw [hs']; decide), if_pos (by rw [hs'])]
    exact hnum 115 (by decide) hs'
  · have hs' : sign = 99 := hs'
    rw [if_neg (by rw [hs']; decide), if_neg (by rw [hs']; decide), if_pos (by rw [hs'])]
    exact hnum 99 (by decide) hs'
  · have hs' : sign = 116 := hs'
    rw [if_neg (by rw [hs']; decide), if_neg (by rw [hs']; decide), if_neg (by rw [hs']; decide), if_pos (by rw [hs'])]
    exact hnum 116 (by decide) hs'

theorem nums_no10 {l : List Int} (h : InS l) : ∀ k, ∀ c ∈ numsTo l k, c ≠ 10
  | 0 => by simp [numsTo]
  | k + 1 => by
    intro c hc
    simp only [numsTo, List.mem_append] at hc
    rcases hc with hc | hc | hc
    · exact nums_no10 h k c hc
    · split at hc
      · simp at hc
      · simp at hc
        subst hc
        decide
    · rw [itoa_nat _ (getD_inS h k).1] at hc
      exact dig_ne (decDigits_all _ c hc) (by decide)

theorem textR_no10 {r : RecD} (h : GoodR r) : ∀ c ∈ (textR r).data.toList, c ≠ 10 := by
  obtain ⟨-, -, a3, -, a5, -, -, a8, -, a10, a11⟩ := check_parts h
  intro c hc
  rw [textR_list] at hc
  simp only [List.mem_append, List.mem_cons] at hc
  rcases hc with hc | rfl | hc | rfl | hc | rfl | hc | rfl | hc
  · exact itoa_ne a3 (by decide) c hc
  · decide
  · exact itoa_ne (by omega) (by decide) c hc
  · decide
  · unfold textL at hc
    simp only [List.mem_cons, List.mem_append, List.not_mem_nil, or_false] at hc
    rcases hc with rfl | hc | rfl
    · decide
    · exact nums_no10 a8 _ c hc
    · decide
  · decide
  · rintro rfl
    unfold isKeyL at a10
    simp only [Bool.and_eq_true, List.all_eq_true] at a10
    have := a10.2 10 hc
    revert this
    decide
  · decide
  · rintro rfl
    unfold checkValL at a11
    split at a11
    · rename_i hv
      rw [List.all_eq_true] at hv
      have := hv 10 hc
      revert this
      decide
    · cases a11
theorem textE_no10 {e : EntD} (h : EntW e) : ∀ c ∈ (textE e).data.toList, c ≠ 10 := by
  intro c hc
  rw [textE_list] at hc
  simp only [List.mem_append, List.mem_cons] at hc
  rcases hc with rfl | rfl | hc | hc
  · rcases h.sign with h | h | h | h <;> rw [h] <;> decide
  · decide
  · exact itoa_ne h.low (by decide) c hc
  · split at hc
    · rename_i hs
      rcases List.mem_cons.1 hc with rfl | hc
      · decide
      · exact textR_no10 (h.put hs) c hc
    · cases hc

end Go.Proofs.YtncmocmmkbmmjaaGreatDoor

/- What a segment has, by its slots alone: pure laws. Own work; no statement. -/
set_option linter.unusedSimpArgs false
set_option linter.unusedVariables false
namespace Go.Proofs.YtncmocmmkbmmjaaGreatDoor

theorem below_slot {S : SegD} (h : S.ok) {x : SlotD} (hx : x ∈ S.slots) : S.slots[belowN (poss S) x.pos]? = some x := by
  have hp : x.pos ∈ poss S := List.mem_map_of_mem hx
  have hat := (isAt_iff (poss S) x.pos (poss_pairwise h)).2 hp
  have hs := isAt_slot S x.pos
  rw [hat] at hs
  split at hs
  · cases hs
  · rename_i y e
    have hy : y.pos = x.pos := by simpa using hs.symm
    have hym : y ∈ S.slots := List.mem_of_getElem? e
    have : y = x := by
      obtain ⟨i, hi, rfl⟩ := List.mem_iff_getElem.1 hym
      obtain ⟨j, hj, rfl⟩ := List.mem_iff_getElem.1 hx
      rcases Nat.lt_trichotomy i j with h1 | h1 | h1
      · have := List.pairwise_iff_getElem.1 h.rising i j hi hj h1
        omega
      · subst h1
        rfl
      · have := List.pairwise_iff_getElem.1 h.rising j i hj hi h1
        omega
    rw [e, this]
theorem not_at {S : SegD} (h : S.ok) {pos : Int} (hx : ∀ x ∈ S.slots, x.pos ≠ pos) : isAt (poss S) pos = false := by
  rw [Bool.eq_false_iff]
  intro e
  have := (isAt_iff (poss S) pos (poss_pairwise h)).1 e
  unfold poss at this
  obtain ⟨x, h1, h2⟩ := List.mem_map.1 this
  exact hx x h1 h2

theorem getS_mem {S : SegD} (h : S.ok) {x : SlotD} (hx : x ∈ S.slots) : getS S x.pos = (x.r, 0) := by
  have := (h.each x hx).2.2.1
  unfold getS
  rw [if_neg (by omega), below_slot h hx]
  dsimp only
  rw [if_pos rfl]
theorem getS_none {S : SegD} (h : S.ok) {pos : Int} (ht : ¬ pos < S.trim) (hx : ∀ x ∈ S.slots, x.pos ≠ pos) : getS S pos = (zeroR, 9) := getS_not ht (not_at h hx)
theorem getS_trim {S : SegD} {pos : Int} (ht : pos < S.trim) : getS S pos = (zeroR, 8) := by unfold getS; rw [if_pos ht]

theorem lastsS_mem {S : SegD} (h : S.ok) {x : SlotD} (hx : x ∈ S.slots) : lastsS S x.pos = decide (x.line < S.D.lasts) := by
  unfold lastsS
  rw [below_slot h hx]
  dsimp only
  rw [decide_eq_true rfl, Bool.true_and]
theorem lastsS_none {S : SegD} (h : S.ok) {pos : Int} (hx : ∀ x ∈ S.slots, x.pos ≠ pos) : lastsS S pos = false := by
  have := isAt_slot S pos
  rw [not_at h hx] at this
  unfold lastsS
  split
  · rfl
  · rename_i x e
    rw [e] at this
    dsimp only at this
    rw [← this, Bool.false_and]

theorem ins_mem {α : Type} (l : List α) (i : Nat) (y x : α) : x ∈ insL l i y ↔ x ∈ l ∨ x = y := by
  unfold insL
  rw [List.mem_append, List.mem_cons]
  constructor
  · rintro (h | h | h)
    · exact .inl (List.mem_of_mem_take h)
    · exact .inr h
    · exact .inl (List.mem_of_mem_drop h)
  · rintro (h | h)
    · rw [← List.take_append_drop i l, List.mem_append] at h
      exact h.imp id .inr
    · exact .inr (.inl h)
theorem cut_mem {S : SegD} (h : S.ok) (n : Int) (x : SlotD) : x ∈ S.slots.take (belowN (poss S) n) ↔ x ∈ S.slots ∧ x.pos < n := by
  have hs := slots_split h n
  constructor
  · exact fun hx => ⟨List.mem_of_mem_take hx, hs.1 x hx⟩
  · rintro ⟨h1, h2⟩
    rw [← List.take_append_drop (belowN (poss S) n) S.slots, List.mem_append] at h1
    rcases h1 with h1 | h1
    · exact h1
    · have := hs.2 x h1
      omega
theorem trim_mem {S : SegD} (h : S.ok) (n : Int) (x : SlotD) : x ∈ S.slots.drop (belowN (poss S) n) ↔ x ∈ S.slots ∧ n ≤ x.pos := by
  have hs := slots_split h n
  constructor
  · exact fun hx => ⟨List.mem_of_mem_drop hx, hs.2 x hx⟩
  · rintro ⟨h1, h2⟩
    rw [← List.take_append_drop (belowN (poss S) n) S.slots, List.mem_append] at h1
    rcases h1 with h1 | h1
    · have := hs.1 x h1
      omega
    · exact h1

/-- There is room: an entry is written. -/
theorem addE_room {S : SegD} {e : EntD} (he : EntW e) (h : (bytesOf S.D.lines : Int) + 401 ≤ S.D.room) : addE S e = 0 := by
  unfold addE writeE
  have h1 : hasEnd (textE e) = false := by
    unfold hasEnd
    rw [decide_eq_false_iff_not]
    exact fun hm => textE_no10 he 10 hm rfl
  have h2 := textE_size he
  rw [if_neg (by rw [h1]; decide), if_neg (by omega)]
/-- What add makes, field by field. -/
theorem addS_ok {S : SegD} {e : EntD} (h : addE S e = 0) : addS S e = { applyS S e S.D.lines.length with D := ⟨S.D.room, S.D.lines ++ [textE e], S.D.lasts⟩ } := by
  unfold addS
  rw [if_pos h, applyS_with]
  unfold addE at h
  unfold writeD
  rw [if_pos h]
theorem lastS_ok {S : SegD} {e : EntD} (h : addE S e = 0) : lastS S e = { applyS S e S.D.lines.length with D := ⟨S.D.room, S.D.lines ++ [textE e], S.D.lines.length + 1⟩ } := by
  unfold lastS
  rw [if_pos h, addS_ok h]
  simp
theorem bytes_add {l : List ByteArray} {e : EntD} (he : EntW e) : bytesOf (l ++ [textE e]) ≤ bytesOf l + 401 := by
  have := textE_size he
  rw [bytesOf_append]
  simp [bytesOf]
  omega

theorem lawR_good {site seq : Int} (h0 : 0 ≤ site) (h1 : site < 8) (h2 : 1 ≤ seq) (h3 : seq ≤ 1048576) : GoodR (lawR site seq) := by
  unfold GoodR checkR lawR
  dsimp only
  rw [if_neg (by omega), if_pos (by decide +kernel), if_neg (by
    have : geti [] site = 0 := by unfold geti; split <;> simp
    omega), if_pos (by decide +kernel)]
  decide +kernel
theorem back_lawR (site seq : Int) : backR (lawR site seq) = lawR site seq := rfl

theorem put_w {pos : Int} {r : RecD} (h0 : 0 ≤ pos) (h1 : pos ≤ 2147483647) (hg : GoodR r) : EntW ⟨112, pos, r⟩ := ⟨.inl rfl, h0, h1, fun _ => hg, fun h => absurd rfl h⟩

/-- All lasts: nothing is lost. -/
theorem crash_all {D : DiskD} (h : D.lasts = D.lines.length) (keep : Int) : crashD D keep = D := by
  have hw : wholeN D keep = D.lines.length := by
    unfold wholeN
    rw [h, List.drop_eq_nil_of_le (Nat.le_refl _)]
    simp [keepN]
  unfold crashD
  rw [hw, List.take_of_length_le (Nat.le_refl _)]
  cases D
  dsimp only at *
  rw [h]

end Go.Proofs.YtncmocmmkbmmjaaGreatDoor

/- The walk of SegOnce. Own work; no statement. -/
set_option linter.unusedSimpArgs false
set_option linter.unusedVariables false
namespace Go.Proofs.YtncmocmmkbmmjaaGreatDoor
open Go.RowKit Go.Shelf Go.Sort

theorem lawR_small' (site seq : Int) : (lawR site seq).dep.length ≤ 1099511627776 ∧ (lawR site seq).key.size ≤ 1099511627776 ∧ (lawR site seq).val.size ≤ 1099511627776 := ⟨(by decide : 0 ≤ 1099511627776), (by decide : 1 ≤ 1099511627776), (by decide : 0 ≤ 1099511627776)⟩

/-- Behind i puts: what F tells of each position is there, each once. -/
structure Once (i n : Nat) (F : List Int) (S : SegD) : Prop where
  sealed : S.sealed = 0
  trim : S.trim = 0
  room : S.D.room = 100000
  bytes : bytesOf S.D.lines ≤ 401 * i
  len : S.slots.length = n
  few : n ≤ i
  flen : F.length = 256
  has : ∀ x ∈ S.slots, ∃ p : Nat, p < 256 ∧ x.pos = (p : Int) ∧ F.getD p 0 ≠ 0 ∧ x.r = lawR 0 (F.getD p 0)
  all : ∀ p : Nat, p < 256 → F.getD p 0 ≠ 0 → ∃ x ∈ S.slots, x.pos = (p : Int)
  rng : ∀ p : Nat, 0 ≤ F.getD p 0 ∧ F.getD p 0 ≤ (i : Int)

theorem zeros_get (p : Nat) : (List.replicate 256 (0 : Int)).getD p 0 = 0 := by
  rw [List.getD_eq_getElem?_getD, List.getElem?_replicate]
  split <;> rfl
theorem once_start : Once 0 0 (List.replicate 256 0) freshS :=
  ⟨rfl, rfl, rfl, by decide, rfl, Nat.le_refl _, List.length_replicate, fun x h => (by cases h), fun p _ h => absurd (zeros_get p) h, fun p => by rw [zeros_get]; omega⟩

theorem once_twice {i n : Nat} {F : List Int} {S : SegD} (h : Once i n F S) (hok : S.ok) (p : Nat) (hp : p < 256) (hF : F.getD p 0 ≠ 0) : segPutE S 1 (p : Int) (lawR 0 ((i : Int) + 1)) = 5 ∧ segPutS S 1 (p : Int) (lawR 0 ((i : Int) + 1)) = S ∧ Once (i + 1) n F S := by
  obtain ⟨x, hx, hxp⟩ := h.all p hp hF
  have hat : isAt (poss S) (p : Int) = true := (isAt_iff _ _ (poss_pairwise hok)).2 (by rw [← hxp]; exact List.mem_map_of_mem hx)
  have c1 : ¬ ((p : Int) < 0 ∨ 2147483647 < (p : Int) ∨ ¬ ((1 : Int) ≤ 1 ∧ (1 : Int) ≤ 2147483647)) := by omega
  have c2 : ¬ (1 : Int) ≤ S.sealed := by rw [h.sealed]; omega
  have c3 : ¬ (p : Int) < S.trim := by rw [h.trim]; omega
  refine ⟨?_, ?_, h.sealed, h.trim, h.room, by have := h.bytes; omega, h.len, by have := h.few; omega, h.flen, h.has, h.all, fun q => by have := h.rng q; omega⟩
  · unfold segPutE; rw [if_neg c1, if_neg c2, if_neg c3, if_pos hat]
  · unfold segPutS; rw [if_neg c1, if_neg c2, if_neg c3, if_pos hat]

theorem set_get (F : List Int) (p q : Nat) (v : Int) (hp : p < F.length) : (F.set p v).getD q 0 = if q = p then v else F.getD q 0 := by
  rw [List.getD_eq_getElem?_getD, List.getElem?_set, List.getD_eq_getElem?_getD]
  by_cases h : p = q
  · subst h
    simp [hp]
  · rw [if_neg h, if_neg (fun e => h e.symm)]

theorem once_first {i n : Nat} {F : List Int} {S : SegD} (h : Once i n F S) (hok : S.ok) (hi : i < 40) (p : Nat) (hp : p < 256) (hF : F.getD p 0 = 0) : segPutE S 1 (p : Int) (lawR 0 ((i : Int) + 1)) = 0 ∧ Once (i + 1) (n + 1) (F.set p ((i : Int) + 1)) (segPutS S 1 (p : Int) (lawR 0 ((i : Int) + 1))) := by
  have hg : GoodR (lawR 0 ((i : Int) + 1)) := lawR_good (by omega) (by omega) (by omega) (by omega)
  have hw : EntW ⟨112, (p : Int), lawR 0 ((i : Int) + 1)⟩ := put_w (by omega) (by omega) hg
  have hn : ∀ x ∈ S.slots, x.pos ≠ (p : Int) := fun x hx e => by
    obtain ⟨q, h1, h2, h3, -⟩ := h.has x hx
    obtain rfl : q = p := by omega
    exact h3 hF
  have hat := not_at hok hn
  have hb := h.bytes
  have hr := h.room
  have hadd : addE S ⟨112, (p : Int), lawR 0 ((i : Int) + 1)⟩ = 0 := addE_room hw (by omega)
  have c1 : ¬ ((p : Int) < 0 ∨ 2147483647 < (p : Int) ∨ ¬ ((1 : Int) ≤ 1 ∧ (1 : Int) ≤ 2147483647)) := by omega
  have c2 : ¬ (1 : Int) ≤ S.sealed := by rw [h.sealed]; omega
  have c3 : ¬ (p : Int) < S.trim := by rw [h.trim]; omega
  have c4 : ¬ isAt (poss S) (p : Int) = true := by rw [hat]; decide
  have c5 : checkR (lawR 0 ((i : Int) + 1)) 8 = 0 := hg
  have e1 : segPutE S 1 (p : Int) (lawR 0 ((i : Int) + 1)) = 0 := by
    unfold segPutE
    rw [if_neg c1, if_neg c2, if_neg c3, if_neg c4, if_pos c5]
    exact hadd
  have e2 : segPutS S 1 (p : Int) (lawR 0 ((i : Int) + 1)) = addS S ⟨112, (p : Int), lawR 0 ((i : Int) + 1)⟩ := by
    unfold segPutS
    rw [if_neg c1, if_neg c2, if_neg c3, if_neg c4, if_pos c5]
  refine ⟨e1, ?_⟩
  rw [e2, addS_ok hadd]
  have hap : applyS S ⟨112, (p : Int), lawR 0 ((i : Int) + 1)⟩ S.D.lines.length = { S with slots := insL S.slots (belowN (poss S) (p : Int)) ⟨(p : Int), S.D.lines.length, lawR 0 ((i : Int) + 1)⟩ } := by unfold applyS; rw [if_pos rfl]
  rw [hap]
  have hle : belowN (poss S) (p : Int) ≤ S.slots.length := by have := belowN_le (poss S) (p : Int); rw [poss_length] at this; exact this
  have hpl : p < F.length := by rw [h.flen]; exact hp
  refine ⟨h.sealed, h.trim, h.room, ?_, ?_, by have := h.few; omega, by rw [List.length_set]; exact h.flen, fun x hx => ?_, fun q hq hqF => ?_, fun q => ?_⟩
  · have := bytes_add (l := S.D.lines) hw
    dsimp only
    omega
  · dsimp only
    rw [insL_length _ _ _ hle, h.len]
  · dsimp only at hx
    rw [ins_mem] at hx
    rcases hx with hx | rfl
    · obtain ⟨q, h1, h2, h3, h4⟩ := h.has x hx
      have hqp : q ≠ p := fun e => h3 (by rw [e]; exact hF)
      refine ⟨q, h1, h2, ?_, ?_⟩
      · rw [set_get _ _ _ _ hpl, if_neg hqp]; exact h3
      · rw [set_get _ _ _ _ hpl, if_neg hqp]; exact h4
    · refine ⟨p, hp, rfl, ?_, ?_⟩
      · rw [set_get _ _ _ _ hpl, if_pos rfl]; omega
      · rw [set_get _ _ _ _ hpl, if_pos rfl]
  · dsimp only
    rw [set_get _ _ _ _ hpl] at hqF
    by_cases e : q = p
    · subst e
      exact ⟨_, (ins_mem _ _ _ _).2 (.inr rfl), rfl⟩
    · rw [if_neg e] at hqF
      obtain ⟨x, hx, hxp⟩ := h.all q hq hqF
      exact ⟨x, (ins_mem _ _ _ _).2 (.inl hx), hxp⟩
  · rw [set_get _ _ _ _ hpl]
    have := h.rng q
    split <;> omega

/-- The laws' array of first ones, in memory. -/
def FirstAt (W : World) (b : Nat) (F : List Int) : Prop := W.heap[b]? = some (.cells (F.map (Value.int .i64)).toArray 52 (0, 0))
theorem first_cell {W : World} {b : Nat} {F : List Int} (h : FirstAt W b F) (hF : F.length = 256) {p : Nat} (hp : p < 256) : W.cell? ⟨b, p, none⟩ = some (.int .i64 (F.getD p 0)) := by
  rw [cellsAt h p]
  simp [hF, hp, List.getD_eq_getElem?_getD]
theorem first_set {W : World} {b : Nat} {F : List Int} (h : FirstAt W b F) (p : Nat) (v : Int) : FirstAt (W.setCell ⟨b, p, none⟩ (.int .i64 v)) b (F.set p v) := by
  have := setAt (j := p) h (.int .i64 v)
  unfold FirstAt
  rw [this]
  simp
/-- A segment stands where a block of another type is written. -/
theorem IsSeg.other {W W' : World} {B : Nat} {m : SegM} {S : SegD} (h : IsSeg W B m S) {b : Nat} {c : Array Value} {t : TypeId} {f : Nat × Nat} (hb : W.heap[b]? = some (.cells c t f)) (hsz : W.heap.size ≤ W'.heap.size) (hk : ∀ k, k ≠ b → W'.heap[k]? = W.heap[k]?)
    (h1 : t ≠ 82) (h2 : t ≠ 106) (h3 : t ≠ 76) (h4 : t ≠ 9) (h5 : t ≠ 109) (h6 : t ≠ 3) : IsSeg W' B m S := by
  obtain ⟨v, qs, hv, hl, hp, hr, hs⟩ := h.val
  have hno := h.not_on hb h1 h2 h3 h4
  have hon : ∀ k, m.on k → W'.heap[k]? = W.heap[k]? := fun k hkk => hk k fun e => hno (e ▸ hkk)
  refine ⟨h.ok, h.low, Nat.le_trans h.cl hsz, h.disk.keep fun k hkk => hon k (.inr (.inr hkk)), v, qs, hv, hl, (hon m.p (.inl rfl)).trans hp, ownsRow_of_heap hr fun k e => hon k (.inr (.inl (hv ▸ e))), fun i x1 x2 => (hs i x1 x2).keep fun k c' t' hk' ht' => hk k fun e => ?_⟩
  subst e
  rw [hb] at hk'
  simp only [Option.some.injEq, Obj.cells.injEq] at hk'
  rcases ht' with e | e
  · exact h5 (hk'.2.1.trans e)
  · exact h6 (hk'.2.1.trans e)

theorem wrap_at (x : Int) (h0 : -9223372036854775808 ≤ x) (h1 : x ≤ 9223372036854775807) : IntKind.i64.wrap x = x := IntWalk.i64_in x ⟨h0, h1⟩

theorem zeros_are : Tryz.zeroCells52 = ((List.replicate 256 (0 : Int)).map (Value.int .i64)).toArray := by kernel_rfl

set_option maxRecDepth 100000 in
set_option maxHeartbeats 8000000 in
theorem segOnce_main (va : Value) (a : List Int) (w : World) (ha : IsNums .u8 w va a) (wa : ∀ n ∈ a, (Lit.int .u8 n).wf = true) (hp : Pow w) :
    Calls Tryz.prog 4 #[va] w fun e w' => e = .returned (.bool true) ∧ Below w.heap.size w w' := by
  obtain ⟨pa, capa, rfl, -, -⟩ := id ha
  have Ha := hide ha
  have Wa := hide (show ∀ n ∈ a, 0 ≤ n ∧ n ≤ 255 from fun n hn => bounds_u8 (wa n hn))
  clear ha wa
  by_cases h1 : (40 : Int) < (a.length : Int)
  · go_enter Tryz.func4, Tryz.ntmps4
    go_wp2_with fail
    refine (segKnown_calls w hp).mono ?_
    rintro e w1 ⟨rfl, b1⟩
    go_wp2_with fail
    go_ret
    exact ⟨rfl, b1⟩
  · go_enter Tryz.func4, Tryz.ntmps4
    go_wp2_with fail
    refine (segKnown_calls w hp).mono ?_
    rintro e w1 ⟨rfl, b1⟩
    go_wp2_with fail
    refine (fresh_calls w1).mono ?_
    rintro e w2 ⟨m, rfl, I2, b2⟩
    have hp1 : Pow w1 := hp.below b1
    have Ha1 := hide (Ha.out.below b1)
    go_wp2_with fail
    obtain ⟨bf, hbf⟩ : ∃ bf, w2.heap.size = bf := ⟨_, rfl⟩
    have x3 := World.alloc_heap_new w2 (.cells Tryz.zeroCells52 52)
    have b3 := box_below w2 (.cells Tryz.zeroCells52 52)
    obtain ⟨w3, hw3⟩ : ∃ w3, w2.alloc (.cells Tryz.zeroCells52 52) = w3 := ⟨_, rfl⟩
    rw [hw3] at x3 b3 ⊢
    rw [hbf] at x3 ⊢
    have F3 : FirstAt w3 bf (List.replicate 256 0) := by unfold FirstAt; rw [← zeros_are]; exact x3
    have I3 := I2.keep b3
    have b3' := b2.trans (b3.mono b2.size)
    have hbw : w1.heap.size ≤ bf := by rw [← hbf]; exact b2.size
    clear I2 b2 x3 b3 hw3 hbf
    go_loopw [6, 7] (fun nv iv wr => ∃ (i n : Nat) (F : List Int) (S : SegD) (dg sg : Option Nat), i ≤ a.length ∧ nv = .int .i64 (n : Int) ∧ iv = .int .i64 (i : Int) ∧ Once i n F S ∧ FirstAt wr bf F ∧ IsSeg wr w1.heap.size ⟨m.p, m.dp, dg, sg, m.c⟩ S ∧ Below w1.heap.size w1 wr) (fun _ iv _ => a.length - (intOf iv).toNat)
    case atStart => exact ⟨0, 0, _, freshS, m.dg, m.sg, Nat.zero_le _, rfl, rfl, once_start, F3, I3, b3'⟩
    case round =>
      obtain ⟨i, n, F, S, dg, sg, hi, rfl, rfl, hC, hF, hI, hb2⟩ := hrel
      clear I3 b3' F3
      have hnf := hC.few
      by_cases hlt : i < a.length
      · have hltI : (i : Int) < (a.length : Int) := by omega
        obtain ⟨pa', capa', he, -, hcells⟩ := Ha1.out
        simp only [Value.slice.injEq, true_and] at he
        obtain ⟨rfl, rfl⟩ := he
        obtain ⟨bb, oo, rfl, hc1⟩ := hcells i hlt
        have hbb : bb < w1.heap.size := World.block_lt_of_cell? _ _ hc1
        have hx : 0 ≤ a.getD i 0 ∧ a.getD i 0 ≤ 255 := Wa.out _ (by rw [List.getD_eq_getElem?_getD, List.getElem?_eq_getElem hlt]; exact List.getElem_mem hlt)
        generalize a.getD i 0 = x at *
        obtain ⟨p, rfl⟩ : ∃ p : Nat, x = (p : Int) := ⟨x.toNat, by omega⟩
        have hp256 : p < 256 := by omega
        have hcw : ∀ W, Below w1.heap.size w1 W → W.cell? ⟨bb, oo + i, none⟩ = some (.int .u8 (p : Int)) := fun W hW => (hW.cell (p := ⟨bb, oo + i, none⟩) hbb).trans hc1
        clear hcells
        go_wp2_with fail
        refine region_headT 10 (fun W => W.cell? ⟨bb, oo + i, none⟩ = some (.int .u8 (p : Int))) (by kernel_rfl) (by decide) ?_
        have hb4 : Below w1.heap.size w1 wr.drew := hb2.drew
        have s4 := hcw _ hb4
        refine HeadT.take 0 (.pointer (some ⟨m.p, 0, none⟩)) rfl (by kernel_rfl) (.inl ⟨rfl, fun w2 s0 => by go_simp⟩) s4 ?_
        refine HeadT.take 1 (.slice (some ⟨bb, oo, none⟩) a.length capa) rfl (by kernel_rfl) (.inl ⟨rfl, fun w2 s0 => by go_simp⟩) s4 ?_
        refine HeadT.take 2 (.int .i64 (i : Int)) rfl (by kernel_rfl) (.inl ⟨rfl, fun w2 s0 => by go_simp⟩) s4 ?_
        refine HeadT.take 3 (.pointer (some ⟨bb, oo + i, none⟩)) rfl (by kernel_rfl) (.inl ⟨rfl, fun w2 s0 => by go_simp⟩) s4 ?_
        refine HeadT.take 4 (.int .u8 (p : Int)) rfl (by kernel_rfl) (.inl ⟨rfl, fun w2 s0 => by go_simp⟩) s4 ?_
        refine HeadT.take 5 (.int .i64 (p : Int)) rfl (by kernel_rfl) (.inl ⟨rfl, fun w2 s0 => by go_simp; exact wrap_at _ (by omega) (by omega)⟩) s4 ?_
        refine HeadT.take 6 (.int .i64 (i : Int)) rfl (by kernel_rfl) (.inl ⟨rfl, fun w2 s0 => by go_simp⟩) s4 ?_
        refine HeadT.take 7 (.int .i64 ((i : Int) + 1)) rfl (by kernel_rfl) (.inl ⟨rfl, fun w2 s0 => by go_simp; exact wrap_at _ (by omega) (by omega)⟩) s4 ?_
        refine HeadT.only 8 (by kernel_rfl) ?_
        refine wpOp_call rfl rfl 21 #[.int .i64 0, .int .i64 ((i : Int) + 1)] (by go_simp) (lawR_calls 0 ((i : Int) + 1) _) ?_
        rintro e w5 ⟨rfl, b5⟩
        have hb5 := hb4.trans (b5.mono hb4.size)
        refine ⟨_, rfl, hcw _ hb5, ?_⟩
        refine HeadT.only 9 (by kernel_rfl) ?_
        have I5 : IsSeg w5 _ _ S := (hI.keep (drewsB wr 1)).keep b5
        have F5 : FirstAt w5 bf F := keepB (show wr.drew.heap[bf]? = _ from hF) b5
        have hrg := hC.rng p
        by_cases hF0 : F.getD p 0 = 0
        · obtain ⟨e1, hC2⟩ := once_first hC hI.ok (by omega) p hp256 hF0
          have u := segPut_on w1 w5 _ S _ 1 (p : Int) 0 _ (lawR 0 ((i : Int) + 1)) I5 hb5 (lawR_is 0 ((i : Int) + 1) w5) (lawR_small' _ _).1 (lawR_small' _ _).2.1 (lawR_small' _ _).2.2 hp1 e1 rfl
          refine wpOp_call rfl rfl 20 #[.pointer (some ⟨m.p, 0, none⟩), .int .i64 1, .int .i64 (p : Int), .agg #[.int .i64 0, .int .i64 ((i : Int) + 1), .slice none 0 0, .string ⟨#[107]⟩, .string ⟨#[]⟩]] (by go_simp) u ?_
          rintro e w6 ⟨rfl, dg6, sg6, I6, b6, T6⟩
          have F6 : FirstAt w6 bf F := (T6.block bf (ltAt F5) (I5.not_on F5 (by decide) (by decide) (by decide) (by decide))).trans F5
          refine ⟨_, rfl, hcw _ b6, ?_⟩
          refine HeadT.tail rfl (by kernel_rfl) ?_
          have cF := first_cell F6 hC.flen hp256
          have cl := hcw _ b6
          have gF := frozenAt F6 p
          have HF := hide F6
          have HI := hide I6
          have HB := hide b6
          have HC := hide hC2
          clear u T6 F6 I6 b6 hC2 hI hF hb2 hb4 s4 b5 hb5 I5 F5 hC hc1 hcw e1
          simp only [List.drop_succ_cons, List.drop_zero]
          go_wp2_with fail
          simp only [noPanic]
          go_wp2_with fail
          have hbl : bf < w6.heap.size := ltAt HF.out
          refine ⟨⟨i + 1, n + 1, F.set p ((i : Int) + 1), _, dg6, sg6, by omega, by go_num, by go_num, HC.out, first_set HF.out p _, HI.out.other HF.out (by simp [World.setCell]) (fun k hk => Below.heap_setCell _ _ _ _ hk) (by decide) (by decide) (by decide) (by decide) (by decide) (by decide), HB.out.setCell (p := ⟨bf, p, none⟩) hbw _⟩, by simp [intOf]; omega⟩
        · obtain ⟨e1, e2, hC2⟩ := once_twice hC hI.ok p hp256 hF0
          have u := segPut_on w1 w5 _ S _ 1 (p : Int) 5 _ (lawR 0 ((i : Int) + 1)) I5 hb5 (lawR_is 0 ((i : Int) + 1) w5) (lawR_small' _ _).1 (lawR_small' _ _).2.1 (lawR_small' _ _).2.2 hp1 e1 e2
          refine wpOp_call rfl rfl 20 #[.pointer (some ⟨m.p, 0, none⟩), .int .i64 1, .int .i64 (p : Int), .agg #[.int .i64 0, .int .i64 ((i : Int) + 1), .slice none 0 0, .string ⟨#[107]⟩, .string ⟨#[]⟩]] (by go_simp) u ?_
          rintro e w6 ⟨rfl, dg6, sg6, I6, b6, T6⟩
          have F6 : FirstAt w6 bf F := (T6.block bf (ltAt F5) (I5.not_on F5 (by decide) (by decide) (by decide) (by decide))).trans F5
          refine ⟨_, rfl, hcw _ b6, ?_⟩
          refine HeadT.tail rfl (by kernel_rfl) ?_
          have cF := first_cell F6 hC.flen hp256
          have cl := hcw _ b6
          have gF := frozenAt F6 p
          have HF := hide F6
          have HI := hide I6
          have HB := hide b6
          have HC := hide hC2
          clear u T6 F6 I6 b6 hC2 hI hF hb2 hb4 s4 b5 hb5 I5 F5 hC hc1 hcw e1
          simp only [List.drop_succ_cons, List.drop_zero]
          go_wp2_with fail
          simp only [noPanic]
          go_wp2_with fail
          exact ⟨⟨i + 1, n, F, _, dg6, sg6, by omega, rfl, by go_num, HC.out, HF.out, HI.out, HB.out⟩, by simp [intOf]; omega⟩
      · obtain rfl : i = a.length := by omega
        have hl300 : S.slots.length ≤ 300 := by have := hC.len; omega
        have hdep : ∀ q ∈ S.slots, q.r.dep.length ≤ 17592186044416 := fun q hq => by
          have := (hI.ok.each q hq).2.2.2.2.b.len
          omega
        have u := hide (segAll_calls _ _ S wr hI)
        have hok := hI.ok
        clear hI
        go_wp2_with fail
        refine u.out.mono ?_
        rintro e w4 ⟨bb, v4, qs4, rfl, A4, b4⟩
        have F4 : FirstAt w4 bf F := keepB hF b4
        have b4' := hb2.trans (b4.mono hb2.size)
        have u2 := hide (segRows_on bb _ 300 v4 qs4 S.slots w4 A4 hdep hl300 (by decide))
        clear u A4 b4 hb2 hF hdep
        go_wp2_with fail
        refine u2.out.mono ?_
        rintro e w5 ⟨va, vb, rfl, hna, hrb, b5⟩
        have F5 : FirstAt w5 bf F := keepB F4 b5
        have b5' := b4'.trans (b5.mono b4'.size)
        obtain ⟨pa5, ca5, rfl, -, hat⟩ := hna
        obtain ⟨pb5, cb5, rfl, hrow⟩ := hrb
        have hn := hC.len
        have la : (S.slots.map (·.pos)).length = n := by rw [List.length_map, hn]
        have lb : (S.slots.map (·.r)).length = n := by rw [List.length_map, hn]
        obtain ⟨P, hcell, hris⟩ : ∃ P : Nat → Nat, (∀ t, t < n → P t < 256 ∧ (∃ ba oa, pa5 = some ⟨ba, oa, none⟩ ∧ w5.cell? ⟨ba, oa + t, none⟩ = some (.int .i64 (P t : Int))) ∧ (∃ bo ob, pb5 = some ⟨bo, ob, none⟩ ∧ w5.cell? ⟨bo, ob + t * 5 + 1, none⟩ = some (.int .i64 (F.getD (P t) 0))) ∧ w5.cell? ⟨bf, P t, none⟩ = some (.int .i64 (F.getD (P t) 0))) ∧ (∀ t, 0 < t → t < n → P (t - 1) < P t) := by
          have hP : ∀ t (ht : t < S.slots.length), ((poss S).getD t 0).toNat < 256 ∧ S.slots[t].pos = (((poss S).getD t 0).toNat : Int) ∧ S.slots[t].r = lawR 0 (F.getD ((poss S).getD t 0).toNat 0) := by
            intro t ht
            obtain ⟨p, h1, h2, h3, h4⟩ := hC.has _ (List.getElem_mem ht)
            have e : (poss S).getD t 0 = (p : Int) := by rw [poss_get S t ht, h2]
            rw [e, Int.toNat_natCast]
            exact ⟨h1, h2, h4⟩
          refine ⟨fun t => ((poss S).getD t 0).toNat, fun t ht => ?_, fun t h0 ht => ?_⟩
          · have hts : t < S.slots.length := by omega
            obtain ⟨h1, h2, h4⟩ := hP t hts
            refine ⟨h1, ?_, ?_, first_cell F5 hC.flen h1⟩
            · obtain ⟨ba, oa, e1, e2⟩ := hat t (by omega)
              refine ⟨ba, oa, e1, ?_⟩
              rw [e2, ← h2]
              exact congrArg (fun z => some (Value.int .i64 z)) (poss_get S t hts)
            · obtain ⟨bo, ob, e1, a9, c9, -, e2, -⟩ := hrow t (by omega)
              refine ⟨bo, ob, e1, ?_⟩
              rw [e2, List.getElem_map, h4]
              rfl
          · have h1 := (hP (t - 1) (by omega)).2.1
            have h2 := (hP t (by omega)).2.1
            have := List.pairwise_iff_getElem.1 hok.rising (t - 1) t (by omega) (by omega) (by omega)
            dsimp only
            omega
        rw [la, lb]
        have Hcell := hide hcell
        have Hris := hide hris
        have Hrng := hide hC.rng
        have HB5 := hide b5'
        clear u2 F4 b4' b5 hcell hris hat hrow la lb F5 hC b5' hl300 hn hok
        go_wp2_with fail
        go_loopw [12] (fun iv wr => ∃ (t k : Nat), t ≤ n ∧ iv = .int .i64 (t : Int) ∧ wr = w5.drewN k) (fun iv _ => n - (intOf iv).toNat)
        case atStart => exact ⟨0, 0, Nat.zero_le _, rfl, rfl⟩
        case round =>
          obtain ⟨t, k, ht, rfl, rfl⟩ := hrel
          by_cases htn : t < n
          · have htI : (t : Int) < (n : Int) := by omega
            obtain ⟨p1, ⟨ba, oa, rfl, ca⟩, ⟨bo, ob, rfl, cb⟩, cf⟩ := Hcell.out t htn
            have hr1 := Hrng.out (P t)
            by_cases ht0 : t = 0
            · subst ht0
              clear Hcell Hris Hrng
              generalize P 0 = pt at *
              generalize F.getD pt 0 = y at *
              simp only [Nat.add_zero, Nat.zero_mul] at ca cb
              have d1 : (w5.drewN k).cell? ⟨ba, oa, none⟩ = _ := ca
              have d2 : (w5.drewN k).cell? ⟨bo, ob + 1, none⟩ = _ := cb
              have d3 : (w5.drewN k).cell? ⟨bf, pt, none⟩ = _ := cf
              obtain ⟨W6, hW6⟩ : ∃ W6, w5.drewN k = W6 := ⟨_, rfl⟩
              rw [hW6] at d1 d2 d3 ⊢
              have hpt : (pt : Int) ≤ 255 := by omega
              have hpt' : ¬ (255 : Int) < (pt : Int) := by omega
              have hpt3 : (pt : Int) < 256 := by omega
              clear ca cb cf
              go_wp2_with fail
              refine wp_region_quiet_lit (by kernel_rfl) (by kernel_rfl) ?_
              first | go_big_quiet_step (fail) | quiet_step (fail)
              first | go_big_quiet_step (fail) | quiet_step (fail)
              first | go_big_quiet_step (fail) | quiet_step (fail)
              first | go_big_quiet_step (fail) | quiet_step (fail)
              first | go_big_quiet_step (fail) | quiet_step (fail)
              first | go_big_quiet_step (fail) | quiet_step (fail)
              first | go_big_quiet_step (fail) | quiet_step (fail)
              first | go_big_quiet_step (fail) | quiet_step (fail)
              first | go_big_quiet_step (fail) | quiet_step (fail)
              first | go_big_quiet_step (fail) | quiet_step (fail)
              first | go_big_quiet_step (fail) | quiet_step (fail)
              first | go_big_quiet_step (fail) | quiet_step (fail)
              first | go_big_quiet_step (fail) | quiet_step (fail)
              first | go_big_quiet_step (fail) | quiet_step (fail)
              first | go_big_quiet_step (fail) | quiet_step (fail)
              first | go_big_quiet_step (fail) | quiet_step (fail)
              first | go_big_quiet_step (fail) | quiet_step (fail)
              first | go_big_quiet_step (fail) | quiet_step (fail)
              first | go_big_quiet_step (fail) | quiet_step (fail)
              first | go_big_quiet_step (fail) | quiet_step (fail)
              first | go_big_quiet_step (fail) | quiet_step (fail)
              first | go_big_quiet_step (fail) | quiet_step (fail)
              first | go_big_quiet_step (fail) | quiet_step (fail)
              first | go_big_quiet_step (fail) | quiet_step (fail)
              first | go_big_quiet_step (fail) | quiet_step (fail)
              first | go_big_quiet_step (fail) | quiet_step (fail)
              first | go_big_quiet_step (fail) | quiet_step (fail)
              first | go_big_quiet_step (fail) | quiet_step (fail)
              first | go_big_quiet_step (fail) | quiet_step (fail)
              first | go_big_quiet_step (fail) | quiet_step (fail)
              first | go_big_quiet_step (fail) | quiet_step (fail)
              first | go_big_quiet_step (fail) | quiet_step (fail)
              first | go_big_quiet_step (fail) | quiet_step (fail)
              first | go_big_quiet_step (fail) | quiet_step (fail)
              first | go_big_quiet_step (fail) | quiet_step (fail)
              first | go_big_quiet_step (fail) | quiet_step (fail)
              first | go_big_quiet_step (fail) | quiet_step (fail)
              first | go_big_quiet_step (fail) | quiet_step (fail)
              first | go_big_quiet_step (fail) | quiet_step (fail)
              first | go_big_quiet_step (fail) | quiet_step (fail)
              first | go_big_quiet_step (fail) | quiet_step (fail)
              first | go_big_quiet_step (fail) | quiet_step (fail)
              refine wpQuiet_nil ?_
              intro _ hw'
              obtain ⟨nq, hw''⟩ := hw'
              subst hw''
              go_wp2_with fail
              exact ⟨⟨1, k + nq, by omega, by go_num, by rw [← hW6]; exact World.drewN_drewN _ _ _⟩, by simp [intOf]; omega⟩
            · have hr := Hris.out t (by omega) htn
              obtain ⟨p0, ⟨ba', oa', e', ca'⟩, -, -⟩ := Hcell.out (t - 1) (by omega)
              simp only [Option.some.injEq, Addr.mk.injEq, and_true] at e'
              obtain ⟨rfl, rfl⟩ := e'
              clear Hcell Hris Hrng
              generalize P (t - 1) = pq at *
              generalize P t = pt at *
              generalize F.getD pt 0 = y at *
              have d0 : (w5.drewN k).cell? ⟨ba, oa + (t - 1), none⟩ = _ := ca'
              have d1 : (w5.drewN k).cell? ⟨ba, oa + t, none⟩ = _ := ca
              have d2 : (w5.drewN k).cell? ⟨bo, ob + t * 5 + 1, none⟩ = _ := cb
              have d3 : (w5.drewN k).cell? ⟨bf, pt, none⟩ = _ := cf
              obtain ⟨W6, hW6⟩ : ∃ W6, w5.drewN k = W6 := ⟨_, rfl⟩
              rw [hW6] at d0 d1 d2 d3 ⊢
              clear ca cb cf ca'
              have htm : (t : Int) - 1 = ((t - 1 : Nat) : Int) := by omega
              have ht1 : (0 : Int) < (t : Int) := by omega
              have ht1' : 0 < t := by omega
              have hrI : ¬ (pt : Int) ≤ (pq : Int) := by omega
              have hrI' : ¬ pt ≤ pq := by omega
              have hrI'' : pq < pt := by omega
              have hpt : (pt : Int) ≤ 255 := by omega
              have hpt' : ¬ (255 : Int) < (pt : Int) := by omega
              have hpt3 : (pt : Int) < 256 := by omega
              go_wp2_with fail
              refine wp_region_quiet_lit (by kernel_rfl) (by kernel_rfl) ?_
              first | go_big_quiet_step (fail) | quiet_step (fail)
              first | go_big_quiet_step (fail) | quiet_step (fail)
              first | go_big_quiet_step (fail) | quiet_step (fail)
              first | go_big_quiet_step (fail) | quiet_step (fail)
              first | go_big_quiet_step (fail) | quiet_step (fail)
              first | go_big_quiet_step (fail) | quiet_step (fail)
              first | go_big_quiet_step (fail) | quiet_step (fail)
              first | go_big_quiet_step (fail) | quiet_step (fail)
              first | go_big_quiet_step (fail) | quiet_step (fail)
              first | go_big_quiet_step (fail) | quiet_step (fail)
              first | go_big_quiet_step (fail) | quiet_step (fail)
              first | go_big_quiet_step (fail) | quiet_step (fail)
              first | go_big_quiet_step (fail) | quiet_step (fail)
              first | go_big_quiet_step (fail) | quiet_step (fail)
              first | go_big_quiet_step (fail) | quiet_step (fail)
              first | go_big_quiet_step (fail) | quiet_step (fail)
              first | go_big_quiet_step (fail) | quiet_step (fail)
              first | go_big_quiet_step (fail) | quiet_step (fail)
              first | go_big_quiet_step (fail) | quiet_step (fail)
              first | go_big_quiet_step (fail) | quiet_step (fail)
              first | go_big_quiet_step (fail) | quiet_step (fail)
              first | go_big_quiet_step (fail) | quiet_step (fail)
              first | go_big_quiet_step (fail) | quiet_step (fail)
              first | go_big_quiet_step (fail) | quiet_step (fail)
              first | go_big_quiet_step (fail) | quiet_step (fail)
              first | go_big_quiet_step (fail) | quiet_step (fail)
              first | go_big_quiet_step (fail) | quiet_step (fail)
              first | go_big_quiet_step (fail) | quiet_step (fail)
              first | go_big_quiet_step (fail) | quiet_step (fail)
              first | go_big_quiet_step (fail) | quiet_step (fail)
              first | go_big_quiet_step (fail) | quiet_step (fail)
              first | go_big_quiet_step (fail) | quiet_step (fail)
              first | go_big_quiet_step (fail) | quiet_step (fail)
              first | go_big_quiet_step (fail) | quiet_step (fail)
              first | go_big_quiet_step (fail) | quiet_step (fail)
              first | go_big_quiet_step (fail) | quiet_step (fail)
              first | go_big_quiet_step (fail) | quiet_step (fail)
              first | go_big_quiet_step (fail) | quiet_step (fail)
              first | go_big_quiet_step (fail) | quiet_step (fail)
              first | go_big_quiet_step (fail) | quiet_step (fail)
              first | go_big_quiet_step (fail) | quiet_step (fail)
              first | go_big_quiet_step (fail) | quiet_step (fail)
              refine wpQuiet_nil ?_
              intro _ hw'
              obtain ⟨nq, hw''⟩ := hw'
              subst hw''
              go_wp2_with fail
              exact ⟨⟨t + 1, k + nq, by omega, by go_num, by rw [← hW6]; exact World.drewN_drewN _ _ _⟩, by simp [intOf]; omega⟩
          · obtain rfl : t = n := by omega
            go_wp2_with fail
            go_ret
            exact ⟨rfl, b1.trans ((HB5.out.trans ((drewsB w5 k).mono HB5.out.size)).mono b1.size)⟩

end Go.Proofs.YtncmocmmkbmmjaaGreatDoor

/- What the proofs of the statements share: slices that came in. Own work; no statement. -/
set_option linter.unusedSimpArgs false
set_option linter.unusedVariables false
namespace Go.Proofs.YtncmocmmkbmmjaaGreatDoor
open Go.ChangeShapes Go.WideShapes Go.ChangeAt Go.RowKit

theorem own : ownKnob Tryz.prog.godebug = none := by kernel_rfl
theorem laidOut : laidOutB Tryz.prog = true := by kernel_rfl

/-- A slice of integers that came in: what it reads as; its numbers fit their kind. -/
theorem nums_of_open {H : Type} {enc : TypeId × Value → H} {W : World} {base : Nat} {sp : Nat → Bool} {held : Bool} {t e : TypeId} {k : IntKind} {fuel : Nat} {a : Option Addr} {len cap : Nat} {x : DataW H × List MemPlace}
    (ht : Tryz.prog.underlying t = some (.slice e)) (he : Tryz.prog.underlying e = some (.int k)) (hc : Tryz.prog.cellsOf e = 1) (h : DataW.trod enc Tryz.prog W base sp held fuel t [.slice a len cap] = some x) (hsp : ∀ b, sp b = true) :
    ∃ zs : List Int, IsNums k W (.slice a len cap) zs ∧ (∀ n ∈ zs, (Lit.int k n).wf = true) := by
  rcases open_ints ht he hc h with ⟨hcs, _⟩ | ⟨y, l, c, zs, hcs, _, hl, hm, hz, _, hcell, hwz⟩
  · simp at hcs
    obtain ⟨rfl, rfl, rfl⟩ := hcs
    exact ⟨[], IsNums.nil _ _ _ _, fun n hn => absurd hn (by simp)⟩
  · simp at hcs
    obtain ⟨rfl, rfl, rfl⟩ := hcs
    rw [hsp, if_pos rfl] at hz
    have hlen : (zs.take len).length = len := by simp; omega
    refine ⟨zs.take len, ⟨some y, cap, by rw [hlen], by omega, fun i hi => ?_⟩, fun n hn => hwz n (List.mem_of_mem_take hn)⟩
    obtain ⟨b, off, rfl, hc'⟩ := ints_at hcell (by omega)
    refine ⟨b, off, rfl, ?_⟩
    rw [hc' i (by omega)]
    simp [List.getD, List.getElem?_take, show i < len by omega]

end Go.Proofs.YtncmocmmkbmmjaaGreatDoor
