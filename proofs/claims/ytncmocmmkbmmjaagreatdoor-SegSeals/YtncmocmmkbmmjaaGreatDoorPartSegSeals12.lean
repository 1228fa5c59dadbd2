/- Own work: the parts S22, S23, WSegSeals, FrameP of the proof, laid together. -/
import Derived.Test.YtncmocmmkbmmjaaGreatDoorPartSegSeals11
import Derived.OpenShut
import Derived.Test.YtncmocmmkbmmjaaGreatDoorPartSegSeals1
import Derived.ProofKit
import Derived.ShutString
import Derived.ChangeOld
import Derived.Deep.DeepHandedRow
/- Lines that tell of a segment what it is: replayed they make it again. Pure laws. Own work; no statement. -/
set_option linter.unusedSimpArgs false
set_option linter.unusedVariables false
namespace Go.Proofs.YtncmocmmkbmmjaaGreatDoor

/-- Its disk's lines, one by one let hold, make the segment. -/
def Replay (S : SegD) : Prop := runE (emptyS S.D) S.D.lines 0 = (S, S.D.lines.length)

theorem applyS_with (S : SegD) (D : DiskD) (e : EntD) (k : Nat) : applyS { S with D := D } e k = { applyS S e k with D := D } := by
  unfold applyS
  repeat' split
  all_goals rfl

theorem runE_D (D : DiskD) : ∀ (l : List ByteArray) (S : SegD) (k : Nat), runE { S with D := D } l k = ({ (runE S l k).1 with D := D }, (runE S l k).2)
  | [], S, k => rfl
  | s :: l, S, k => by
    unfold runE
    cases parseE s.data.toList with
    | none => rfl
    | some e =>
      dsimp only
      rw [mayS_D]
      by_cases h : mayS S e = true
      · rw [if_pos h, if_pos h, applyS_with, runE_D D l]
      · rw [if_neg h, if_neg h]

theorem runE_snoc : ∀ (l : List ByteArray) (S S' : SegD) (k : Nat) (s : ByteArray) (e : EntD), runE S l k = (S', k + l.length) → parseE s.data.toList = some e → mayS S' e = true → runE S (l ++ [s]) k = (applyS S' e (k + l.length), k + l.length + 1)
  | [], S, S', k, s, e, h, hp, hm => by
    simp only [runE, List.length_nil, Nat.add_zero, Prod.mk.injEq, and_true] at h
    subst h
    simp only [List.nil_append, List.length_nil, Nat.add_zero]
    unfold runE
    rw [hp]
    dsimp only
    rw [if_pos hm]
    rfl
  | t :: l, S, S', k, s, e, h, hp, hm => by
    have hne : ∀ (n : Nat), k ≠ k + (n + 1) := fun n => by omega
    rw [List.cons_append]
    unfold runE at h ⊢
    cases ht : parseE t.data.toList with
    | none =>
      rw [ht] at h
      simp at h
    | some f =>
      rw [ht] at h
      dsimp only at h ⊢
      by_cases hf : mayS S f = true
      · rw [if_pos hf] at h ⊢
        have e1 : k + (t :: l).length = k + 1 + l.length := by simp; omega
        rw [e1] at h
        rw [e1]
        exact runE_snoc l _ S' (k + 1) s e h hp hm
      · rw [if_neg hf] at h
        simp at h

theorem replay_new (D : DiskD) (h : D.lines = []) : Replay (emptyS D) := by
  unfold Replay
  rw [show (emptyS D).D = D from rfl, h]
  rfl
theorem Replay.lasts {S : SegD} (h : Replay S) (D : DiskD) (hl : D.lines = S.D.lines) : Replay { S with D := D } := by
  unfold Replay at *
  dsimp only
  rw [hl]
  have := runE_D D S.D.lines (emptyS S.D) 0
  rw [h] at this
  exact this
theorem Replay.add {S : SegD} {e : EntD} (h : Replay S) (hm : mayS S e = true) (hp : parseE (textE e).data.toList = some e) (he : addE S e = 0) : Replay (addS S e) := by
  have hl := writeD_lines (D := S.D) (s := textE e) he
  have h1 : runE (emptyS S.D) (S.D.lines ++ [textE e]) 0 = (applyS S e S.D.lines.length, S.D.lines.length + 1) := by
    have := runE_snoc S.D.lines (emptyS S.D) S 0 (textE e) e (by rw [Nat.zero_add]; exact h) hp hm
    rwa [Nat.zero_add] at this
  have h2 := runE_D (writeD S.D (textE e)) (S.D.lines ++ [textE e]) (emptyS S.D) 0
  rw [h1] at h2
  unfold addS
  rw [if_pos he]
  unfold Replay
  rw [applyS_D]
  dsimp only
  rw [hl, applyS_with]
  simp only [List.length_append, List.length_singleton]
  exact h2
theorem Replay.last {S : SegD} {e : EntD} (h : Replay S) (hm : mayS S e = true) (hp : parseE (textE e).data.toList = some e) : Replay (lastS S e) := by
  unfold lastS
  by_cases he : addE S e = 0
  · rw [if_pos he]
    exact (h.add hm hp he).lasts _ rfl
  · rw [if_neg he]
    exact h
theorem Replay.open {S : SegD} (h : Replay S) : openS S.D = S := by
  unfold openS
  rw [h]
  dsimp only
  unfold openD
  rw [if_neg (by omega)]

/-! An entry in words. -/
theorem textE_list (e : EntD) : (textE e).data.toList = e.sign :: 32 :: (Lib.itoa e.n ++ (if e.sign = 112 then 32 :: (textR e.r).data.toList else [])) := by
  unfold textE
  split <;> simp [ByteArray.data_append]

theorem parse_textE {e : EntD} (h : EntW e) : parseE (textE e).data.toList = some { e with r := backR e.r } := by
  rw [textE_list, parseE_eq]
  have hs : e.sign ≠ 32 := by rcases h.sign with h | h | h | h <;> rw [h] <;> decide
  have hc : cutL (e.sign :: 32 :: (Lib.itoa e.n ++ (if e.sign = 112 then 32 :: (textR e.r).data.toList else []))) 32 = ([e.sign], Lib.itoa e.n ++ (if e.sign = 112 then 32 :: (textR e.r).data.toList else []), true) :=
    cut_at [e.sign] _ 32 (fun c hc => by rw [List.mem_singleton] at hc; rw [hc]; exact hs)
  rw [hc]
  dsimp only
  obtain ⟨sign, n, r⟩ := e
  dsimp only at *
  have hn := numL_itoa h.low h.high
  dsimp only at hn
  have hnum : ∀ c : UInt8, c ≠ 112 → sign = c → numE c (Lib.itoa n ++ (if sign = 112 then 32 :: (textR r).data.toList else [])) = some ⟨sign, n, backR r⟩ := by
    intro c hc e
    subst e
    have hz := h.zero hc
    dsimp only at hz
    rw [if_neg hc, List.append_nil, hz]
    unfold numE
    rw [hn]
    simp [backR, zeroR]
  rcases h.sign with hs' | hs' | hs' | hs'
  · have hs' : sign = 112 := hs'
    subst hs'
    rw [if_pos rfl, if_pos rfl]
    unfold putE
    rw [cut_at _ _ 32 (itoa_ne h.low (by decide))]
    dsimp only
    rw [hn, parse_textR (h.put rfl)]
    simp
  · have hs' : sign = 115 := hs'
    rw [if_neg (by rw [hs']; decide), if_pos (by rw [hs'])]
    exact hnum 115 (by decide) hs'
  · have hs' : sign = 99 := hs'
    rw [if_neg (by rw [hs']; decide), if_neg (by rw [hs']; decide), if_pos (by rw [hs'])]
    exact hnum 99 (by decide) hs'
  · have hs' : sign = 116 := hs'
    rw [if_neg (by rw [hs']; decide), if_neg (by rw [hs']; decide), if_neg (by rw [hs']; decide), if_pos (by rw [hs'])]
    exact hnum 116 (by decide) hs'

theorem nums_no10 {l : List Int} (h : InS l) : ∀ k, ∀ c ∈ numsTo l k, c ≠ 10
  | 0 => by simp [numsTo]
  | k + 1 => by
    intro c hc
    simp only [numsTo, List.mem_append] at hc
    rcases hc with hc | hc | hc
    · exact nums_no10 h k c hc
    · split at hc
      · simp at hc
      · simp at hc
        subst hc
        decide
    · rw [itoa_nat _ (getD_inS h k).1] at hc
      exact dig_ne (decDigits_all _ c hc) (by decide)

theorem textR_no10 {r : RecD} (h : GoodR r) : ∀ c ∈ (textR r).data.toList, c ≠ 10 := by
  obtain ⟨-, -, a3, -, a5, -, -, a8, -, a10, a11⟩ := check_parts h
  intro c hc
  rw [textR_list] at hc
  simp only [List.mem_append, List.mem_cons] at hc
  rcases hc with hc | rfl | hc | rfl | hc | rfl | hc | rfl | hc
  · exact itoa_ne a3 (by decide) c hc
  · decide
  · exact itoa_ne (by omega) (by decide) c hc
  · decide
  · unfold textL at hc
    simp only [List.mem_cons, List.mem_append, List.not_mem_nil, or_false] at hc
    rcases hc with rfl | hc | rfl
    · decide
    · exact nums_no10 a8 _ c hc
    · decide
  · decide
  · rintro rfl
    unfold isKeyL at a10
    simp only [Bool.and_eq_true, List.all_eq_true] at a10
    have := a10.2 10 hc
    revert this
    decide
  · decide
  · rintro rfl
    unfold checkValL at a11
    split at a11
    · rename_i hv
      rw [List.all_eq_true] at hv
      have := hv 10 hc
      revert this
      decide
    · cases a11
theorem textE_no10 {e : EntD} (h : EntW e) : ∀ c ∈ (textE e).data.toList, c ≠ 10 := by
  intro c hc
  rw [textE_list] at hc
  simp only [List.mem_append, List.mem_cons] at hc
  rcases hc with rfl | rfl | hc | hc
  · rcases h.sign with h | h | h | h <;> rw [h] <;> decide
  · decide
  · exact itoa_ne h.low (by decide) c hc
  · split at hc
    · rename_i hs
      rcases List.mem_cons.1 hc with rfl | hc
      · decide
      · exact textR_no10 (h.put hs) c hc
    · cases hc

end Go.Proofs.YtncmocmmkbmmjaaGreatDoor

/- What a segment has, by its slots alone: pure laws. Own work; no statement. -/
set_option linter.unusedSimpArgs false
set_option linter.unusedVariables false
namespace Go.Proofs.YtncmocmmkbmmjaaGreatDoor

theorem below_slot {S : SegD} (h : S.ok) {x : SlotD} (hx : x ∈ S.slots) : S.slots[belowN (poss S) x.pos]? = some x := by
  have hp : x.pos ∈ poss S := List.mem_map_of_mem hx
  have hat := (isAt_iff (poss S) x.pos (poss_pairwise h)).2 hp
  have hs := isAt_slot S x.pos
  rw [hat] at hs
  split at hs
  · cases hs
  · rename_i y e
    have hy : y.pos = x.pos := by simpa using hs.symm
    have hym : y ∈ S.slots := List.mem_of_getElem? e
    have : y = x := by
      obtain ⟨i, hi, rfl⟩ := List.mem_iff_getElem.1 hym
      obtain ⟨j, hj, rfl⟩ := List.mem_iff_getElem.1 hx
      rcases Nat.lt_trichotomy i j with h1 | h1 | h1
      · have := List.pairwise_iff_getElem.1 h.rising i j hi hj h1
        omega
      · subst h1
        rfl
      · have := List.pairwise_iff_getElem.1 h.rising j i hj hi h1
        omega
    rw [e, this]
theorem not_at {S : SegD} (h : S.ok) {pos : Int} (hx : ∀ x ∈ S.slots, x.pos ≠ pos) : isAt (poss S) pos = false := by
  rw [Bool.eq_false_iff]
  intro e
  have := (isAt_iff (poss S) pos (poss_pairwise h)).1 e
  unfold poss at this
  obtain ⟨x, h1, h2⟩ := List.mem_map.1 this
  exact hx x h1 h2

theorem getS_mem {S : SegD} (h : S.ok) {x : SlotD} (hx : x ∈ S.slots) : getS S x.pos = (x.r, 0) := by
  have := (h.each x hx).2.2.1
  unfold getS
  rw [if_neg (by omega), below_slot h hx]
  dsimp only
  rw [if_pos rfl]
theorem getS_none {S : SegD} (h : S.ok) {pos : Int} (ht : ¬ pos < S.trim) (hx : ∀ x ∈ S.slots, x.pos ≠ pos) : getS S pos = (zeroR, 9) := getS_not ht (not_at h hx)
theorem getS_trim {S : SegD} {pos : Int} (ht : pos < S.trim) : getS S pos = (zeroR, 8) := by unfold getS; rw [if_pos ht]

theorem lastsS_mem {S : SegD} (h : S.ok) {x : SlotD} (hx : x ∈ S.slots) : lastsS S x.pos = decide (x.line < S.D.lasts) := by
  unfold lastsS
  rw [below_slot h hx]
  dsimp only
  rw [decide_eq_true rfl, Bool.true_and]
theorem lastsS_none {S : SegD} (h : S.ok) {pos : Int} (hx : ∀ x ∈ S.slots, x.pos ≠ pos) : lastsS S pos = false := by
  have := isAt_slot S pos
  rw [not_at h hx] at this
  unfold lastsS
  split
  · rfl
  · rename_i x e
    rw [e] at this
    dsimp only at this
    rw [← this, Bool.false_and]

theorem ins_mem {α : Type} (l : List α) (i : Nat) (y x : α) : x ∈ insL l i y ↔ x ∈ l ∨ x = y := by
  unfold insL
  rw [List.mem_append, List.mem_cons]
  constructor
  · rintro (h | h | h)
    · exact .inl (List.mem_of_mem_take h)
    · exact .inr h
    · exact .inl (List.mem_of_mem_drop h)
  · rintro (h | h)
    · rw [← List.take_append_drop i l, List.mem_append] at h
      exact h.imp id .inr
    · exact .inr (.inl h)
theorem cut_mem {S : SegD} (h : S.ok) (n : Int) (x : SlotD) : x ∈ S.slots.take (belowN (poss S) n) ↔ x ∈ S.slots ∧ x.pos < n := by
  have hs := slots_split h n
  constructor
  · exact fun hx => ⟨List.mem_of_mem_take hx, hs.1 x hx⟩
  · rintro ⟨h1, h2⟩
    rw [← List.take_append_drop (belowN (poss S) n) S.slots, List.mem_append] at h1
    rcases h1 with h1 | h1
    · exact h1
    · have := hs.2 x h1
      omega
theorem trim_mem {S : SegD} (h : S.ok) (n : Int) (x : SlotD) : x ∈ S.slots.drop (belowN (poss S) n) ↔ x ∈ S.slots ∧ n ≤ x.pos := by
  have hs := slots_split h n
  constructor
  · exact fun hx => ⟨List.mem_of_mem_drop hx, hs.2 x hx⟩
  · rintro ⟨h1, h2⟩
    rw [← List.take_append_drop (belowN (poss S) n) S.slots, List.mem_append] at h1
    rcases h1 with h1 | h1
    · have := hs.1 x h1
      omega
    · exact h1

/-- There is room: an entry is written. -/
theorem addE_room {S : SegD} {e : EntD} (he : EntW e) (h : (bytesOf S.D.lines : Int) + 401 ≤ S.D.room) : addE S e = 0 := by
  unfold addE writeE
  have h1 : hasEnd (textE e) = false := by
    unfold hasEnd
    rw [decide_eq_false_iff_not]
    exact fun hm => textE_no10 he 10 hm rfl
  have h2 := textE_size he
  rw [if_neg (by rw [h1]; decide), if_neg (by omega)]
/-- What add makes, field by field. -/
theorem addS_ok {S : SegD} {e : EntD} (h : addE S e = 0) : addS S e = { applyS S e S.D.lines.length with D := ⟨S.D.room, S.D.lines ++ [textE e], S.D.lasts⟩ } := by
  unfold addS
  rw [if_pos h, applyS_with]
  unfold addE at h
  unfold writeD
  rw [if_pos h]
theorem lastS_ok {S : SegD} {e : EntD} (h : addE S e = 0) : lastS S e = { applyS S e S.D.lines.length with D := ⟨S.D.room, S.D.lines ++ [textE e], S.D.lines.length + 1⟩ } := by
  unfold lastS
  rw [if_pos h, addS_ok h]
  simp
theorem bytes_add {l : List ByteArray} {e : EntD} (he : EntW e) : bytesOf (l ++ [textE e]) ≤ bytesOf l + 401 := by
  have := textE_size he
  rw [bytesOf_append]
  simp [bytesOf]
  omega

theorem lawR_good {site seq : Int} (h0 : 0 ≤ site) (h1 : site < 8) (h2 : 1 ≤ seq) (h3 : seq ≤ 1048576) : GoodR (lawR site seq) := by
  unfold GoodR checkR lawR
  dsimp only
  rw [if_neg (by omega), if_pos (by decide +kernel), if_neg (by
    have : geti [] site = 0 := by unfold geti; split <;> simp
    omega), if_pos (by decide +kernel)]
  decide +kernel
theorem back_lawR (site seq : Int) : backR (lawR site seq) = lawR site seq := rfl

theorem put_w {pos : Int} {r : RecD} (h0 : 0 ≤ pos) (h1 : pos ≤ 2147483647) (hg : GoodR r) : EntW ⟨112, pos, r⟩ := ⟨.inl rfl, h0, h1, fun _ => hg, fun h => absurd rfl h⟩

/-- All lasts: nothing is lost. -/
theorem crash_all {D : DiskD} (h : D.lasts = D.lines.length) (keep : Int) : crashD D keep = D := by
  have hw : wholeN D keep = D.lines.length := by
    unfold wholeN
    rw [h, List.drop_eq_nil_of_le (Nat.le_refl _)]
    simp [keepN]
  unfold crashD
  rw [hw, List.take_of_length_le (Nat.le_refl _)]
  cases D
  dsimp only at *
  rw [h]

end Go.Proofs.YtncmocmmkbmmjaaGreatDoor

/- The walk of SegSeals. Own work; no statement. -/
set_option linter.unusedSimpArgs false
set_option linter.unusedVariables false
namespace Go.Proofs.YtncmocmmkbmmjaaGreatDoor
open Go.RowKit Go.Shelf Go.Sort

theorem lawR_small (site seq : Int) : (lawR site seq).dep.length ≤ 1099511627776 ∧ (lawR site seq).key.size ≤ 1099511627776 ∧ (lawR site seq).val.size ≤ 1099511627776 := ⟨(by decide : 0 ≤ 1099511627776), (by decide : 1 ≤ 1099511627776), (by decide : 0 ≤ 1099511627776)⟩

/-- Behind i calls: sealed so far, records at the first positions; a fall takes no seal away. -/
structure Seals (i s p : Nat) (S : SegD) : Prop where
  sealed : S.sealed = (s : Int)
  sle : s ≤ 20
  trim : S.trim = 0
  ps : S.slots.map (·.pos) = (List.range p).map (fun (j : Nat) => (j : Int))
  rep : Replay S
  room : S.D.room = 100000
  bytes : bytesOf S.D.lines ≤ 401 * i
  few : p ≤ i
  front : ∃ S', runE (emptyS S.D) (S.D.lines.take S.D.lasts) 0 = (S', S.D.lasts) ∧ S'.sealed = S.sealed

theorem seals_start : Seals 0 0 0 freshS := ⟨rfl, by decide, rfl, rfl, replay_new _ rfl, rfl, by decide, by decide, freshS, rfl, rfl⟩

theorem Seals.more {i s p : Nat} {S : SegD} (h : Seals i s p S) : Seals (i + 1) s p S := ⟨h.sealed, h.sle, h.trim, h.ps, h.rep, h.room, by have := h.bytes; omega, by have := h.few; omega, h.front⟩

theorem below_all (p : Nat) (x : Int) (hx : (p : Int) ≤ x) : belowN ((List.range p).map (fun (j : Nat) => (j : Int))) x = p := by
  unfold belowN
  rw [List.countP_eq_length.2]
  · simp
  · intro y hy
    obtain ⟨j, hj, rfl⟩ := List.mem_map.1 hy
    have := List.mem_range.1 hj
    simp
    omega

theorem seals_put {i s p : Nat} {S : SegD} (h : Seals i s p S) (hok : S.ok) (hla : S.D.lasts ≤ S.D.lines.length) (hi : i < 40) (k : Int) (hk0 : (s : Int) < k) (hk1 : k ≤ 20) : segPutE S k (p : Int) (lawR 0 ((i : Int) + 1)) = 0 ∧ Seals (i + 1) s (p + 1) (segPutS S k (p : Int) (lawR 0 ((i : Int) + 1))) := by
  have hf := h.few
  have hg : GoodR (lawR 0 ((i : Int) + 1)) := lawR_good (by omega) (by omega) (by omega) (by omega)
  have hw : EntW ⟨112, (p : Int), lawR 0 ((i : Int) + 1)⟩ := put_w (by omega) (by omega) hg
  have hps : poss S = (List.range p).map (fun (j : Nat) => (j : Int)) := h.ps
  have hn : ∀ x ∈ S.slots, x.pos ≠ (p : Int) := fun x hx e => by
    have : x.pos ∈ poss S := List.mem_map_of_mem hx
    rw [hps] at this
    obtain ⟨j, hj, h2⟩ := List.mem_map.1 this
    have := List.mem_range.1 hj
    omega
  have hat := not_at hok hn
  have hb := h.bytes
  have hr := h.room
  have hadd : addE S ⟨112, (p : Int), lawR 0 ((i : Int) + 1)⟩ = 0 := addE_room hw (by omega)
  have hm : mayS S ⟨112, (p : Int), lawR 0 ((i : Int) + 1)⟩ = true := by
    unfold mayS
    dsimp only
    rw [if_pos rfl, hat, h.trim, decide_eq_true (by omega)]
    rfl
  have c1 : ¬ ((p : Int) < 0 ∨ 2147483647 < (p : Int) ∨ ¬ (1 ≤ k ∧ k ≤ 2147483647)) := by omega
  have c2 : ¬ k ≤ S.sealed := by rw [h.sealed]; omega
  have c3 : ¬ (p : Int) < S.trim := by rw [h.trim]; omega
  have c4 : ¬ isAt (poss S) (p : Int) = true := by rw [hat]; decide
  have c5 : checkR (lawR 0 ((i : Int) + 1)) 8 = 0 := hg
  have e1 : segPutE S k (p : Int) (lawR 0 ((i : Int) + 1)) = 0 := by
    unfold segPutE
    rw [if_neg c1, if_neg c2, if_neg c3, if_neg c4, if_pos c5]
    exact hadd
  have e2 : segPutS S k (p : Int) (lawR 0 ((i : Int) + 1)) = addS S ⟨112, (p : Int), lawR 0 ((i : Int) + 1)⟩ := by
    unfold segPutS
    rw [if_neg c1, if_neg c2, if_neg c3, if_neg c4, if_pos c5]
  refine ⟨e1, ?_⟩
  rw [e2]
  have hrep := h.rep.add hm (by rw [parse_textE hw]; rfl) hadd
  rw [addS_ok hadd] at hrep ⊢
  have hap : applyS S ⟨112, (p : Int), lawR 0 ((i : Int) + 1)⟩ S.D.lines.length = { S with slots := S.slots ++ [⟨(p : Int), S.D.lines.length, lawR 0 ((i : Int) + 1)⟩] } := by
    unfold applyS
    rw [if_pos rfl, hps, below_all p _ (Int.le_refl _)]
    have hl : S.slots.length = p := by have := congrArg List.length h.ps; simpa using this
    unfold insL
    dsimp only
    rw [← hl, List.take_of_length_le (Nat.le_refl _), List.drop_eq_nil_of_le (Nat.le_refl _)]
  rw [hap] at hrep ⊢
  refine ⟨h.sealed, h.sle, h.trim, ?_, hrep, h.room, ?_, by omega, ?_⟩
  · dsimp only
    rw [List.map_append, h.ps, List.range_succ, List.map_append]
    rfl
  · have := bytes_add (l := S.D.lines) hw
    dsimp only
    omega
  · obtain ⟨S', h1, h2⟩ := h.front
    dsimp only
    rw [List.take_append_of_le_length hla]
    have h3 := runE_D ⟨S.D.room, S.D.lines ++ [textE ⟨112, (p : Int), lawR 0 ((i : Int) + 1)⟩], S.D.lasts⟩ (S.D.lines.take S.D.lasts) (emptyS S.D) 0
    rw [h1] at h3
    exact ⟨_, h3, h2⟩

theorem seals_not {i s p : Nat} {S : SegD} (h : Seals i s p S) (hi : i < 40) (k : Int) (hk0 : k ≤ (s : Int)) (hk1 : 1 ≤ k) : segPutE S k (p : Int) (lawR 0 ((i : Int) + 1)) = 7 ∧ segPutS S k (p : Int) (lawR 0 ((i : Int) + 1)) = S ∧ segSealE S k = 7 ∧ segSealS S k = S := by
  have hf := h.few
  have hs := h.sle
  have c1 : ¬ ((p : Int) < 0 ∨ 2147483647 < (p : Int) ∨ ¬ (1 ≤ k ∧ k ≤ 2147483647)) := by omega
  have c2 : k ≤ S.sealed := by rw [h.sealed]; omega
  refine ⟨?_, ?_, ?_, ?_⟩
  · unfold segPutE; rw [if_neg c1, if_pos c2]
  · unfold segPutS; rw [if_neg c1, if_pos c2]
  · unfold segSealE; rw [if_neg (by omega), if_pos c2]
  · unfold segSealS; rw [if_neg (by omega), if_pos c2]

theorem seals_end {i s p : Nat} {S : SegD} (h : Seals i s p S) : endS S = (p : Int) := by
  unfold endS
  have h1 := h.ps
  rcases Nat.eq_zero_or_pos p with rfl | hp
  · have : S.slots = [] := by simpa using h1
    rw [this]
    exact h.trim
  · obtain ⟨q, rfl⟩ : ∃ q, p = q + 1 := ⟨p - 1, by omega⟩
    have h2 : (S.slots.map (·.pos)).getLast? = some (q : Int) := by rw [h1, List.range_succ, List.map_append]; simp
    rw [List.getLast?_map] at h2
    cases hl : S.slots.getLast? with
    | none => rw [hl] at h2; cases h2
    | some x =>
      rw [hl] at h2
      have : x.pos = (q : Int) := by simpa using h2
      dsimp only
      omega

theorem seals_seal {i s p : Nat} {S : SegD} (h : Seals i s p S) (hi : i < 40) (k : Nat) (hk0 : s < k) (hk1 : k ≤ 20) : segSealE S (k : Int) = 0 ∧ Seals (i + 1) k p (segSealS S (k : Int)) := by
  have hw : EntW (entN 115 (k : Int)) := entN_w (.inl rfl) (by omega) (by omega)
  have hb := h.bytes
  have hr := h.room
  have hadd : addE S (entN 115 (k : Int)) = 0 := addE_room hw (by omega)
  have hm : mayS S (entN 115 (k : Int)) = true := by
    unfold mayS entN
    dsimp only
    rw [if_neg (by decide), if_pos rfl, h.sealed, decide_eq_true (by omega)]
  have hrep := h.rep.last hm (by rw [parse_textE hw]; rfl)
  have c2 : ¬ (k : Int) ≤ S.sealed := by rw [h.sealed]; omega
  have e1 : segSealS S (k : Int) = lastS S (entN 115 (k : Int)) := by unfold segSealS; rw [if_neg (by omega), if_neg c2]
  have e2 : lastS S (entN 115 (k : Int)) = { S with sealed := (k : Int), D := ⟨S.D.room, S.D.lines ++ [textE (entN 115 (k : Int))], S.D.lines.length + 1⟩ } := by
    rw [lastS_ok hadd]
    rfl
  refine ⟨by unfold segSealE; rw [if_neg (by omega), if_neg c2]; exact hadd, ?_⟩
  rw [e1]
  rw [e2] at hrep ⊢
  refine ⟨rfl, hk1, h.trim, h.ps, hrep, h.room, ?_, by have := h.few; omega, ?_⟩
  · have := bytes_add (l := S.D.lines) hw
    dsimp only
    omega
  · dsimp only
    rw [List.take_of_length_le (by simp)]
    have h3 := hrep
    unfold Replay at h3
    dsimp only at h3
    refine ⟨_, h3.trans (Prod.ext rfl (by simp)), rfl⟩

theorem seals_crash {i s p : Nat} {S : SegD} (h : Seals i s p S) (hla : S.D.lasts ≤ S.D.lines.length) : (openS (crashD S.D 0)).sealed = (s : Int) := by
  obtain ⟨S', h1, h2⟩ := h.front
  have hk : keepN (S.D.lines.drop S.D.lasts) 0 = 0 := by
    cases S.D.lines.drop S.D.lasts with
    | nil => rfl
    | cons x r =>
      unfold keepN
      rw [if_neg (by omega)]
  have hc : crashD S.D 0 = ⟨S.D.room, S.D.lines.take S.D.lasts, S.D.lasts⟩ := by
    unfold crashD wholeN
    rw [hk]
    rfl
  rw [hc]
  have h3 := runE_D ⟨S.D.room, S.D.lines.take S.D.lasts, S.D.lasts⟩ (S.D.lines.take S.D.lasts) (emptyS S.D) 0
  rw [h1] at h3
  unfold openS
  dsimp only
  rw [show runE (emptyS ⟨S.D.room, S.D.lines.take S.D.lasts, S.D.lasts⟩) (S.D.lines.take S.D.lasts) 0 = _ from h3]
  exact h2.trans h.sealed

theorem step_nat {n : Int} (h : 0 ≤ n) : ∃ k : Nat, n / 2 % 20 = (k : Int) ∧ k < 20 := ⟨(n / 2 % 20).toNat, by omega, by omega⟩
theorem odd_or {n : Int} (h : 0 ≤ n) : Int.tmod n 2 = 0 ∨ Int.tmod n 2 = 1 := by
  rw [Int.tmod_eq_emod_of_nonneg h]
  omega

set_option maxRecDepth 100000 in
set_option maxHeartbeats 8000000 in
theorem segSeals_main (va : Value) (a : List Int) (w : World) (ha : IsNums .u8 w va a) (wa : ∀ n ∈ a, (Lit.int .u8 n).wf = true) (hp : Pow w) :
    Calls Tryz.prog 5 #[va] w fun e w' => e = .returned (.bool true) ∧ Below w.heap.size w w' := by
  obtain ⟨pa, capa, rfl, -, -⟩ := id ha
  have Ha := hide ha
  have Wa := hide (show ∀ n ∈ a, 0 ≤ n ∧ n ≤ 255 from fun n hn => bounds_u8 (wa n hn))
  clear ha wa
  by_cases h1 : (30 : Int) < (a.length : Int)
  · go_enter Tryz.func5, Tryz.ntmps5
    go_wp2_with fail
    refine (segKnown_calls w hp).mono ?_
    rintro e w1 ⟨rfl, b1⟩
    go_wp2_with fail
    go_ret
    exact ⟨rfl, b1⟩
  · go_enter Tryz.func5, Tryz.ntmps5
    go_wp2_with fail
    refine (segKnown_calls w hp).mono ?_
    rintro e w1 ⟨rfl, b1⟩
    go_wp2_with fail
    refine (fresh_calls w1).mono ?_
    rintro e w2 ⟨m, rfl, I2, b2⟩
    have hp1 : Pow w1 := hp.below b1
    have Ha1 := hide (Ha.out.below b1)
    go_wp2_with fail
    go_loopw [5, 6, 7] (fun sv pv iv wr => ∃ (i s p : Nat) (S : SegD) (dg sg : Option Nat), i ≤ a.length ∧ sv = .int .i64 (s : Int) ∧ pv = .int .i64 (p : Int) ∧ iv = .int .i64 (i : Int) ∧ Seals i s p S ∧ IsSeg wr w1.heap.size ⟨m.p, m.dp, dg, sg, m.c⟩ S ∧ Below w1.heap.size w1 wr) (fun _ _ iv _ => a.length - (intOf iv).toNat)
    case atStart => exact ⟨0, 0, 0, freshS, m.dg, m.sg, Nat.zero_le _, rfl, rfl, rfl, seals_start, I2, b2⟩
    case round =>
      obtain ⟨i, s, p, S, dg, sg, hi, rfl, rfl, rfl, hC, hI, hb2⟩ := hrel
      clear I2 b2
      have hsl := hC.sle
      have hpf := hC.few
      by_cases hlt : i < a.length
      · have hltI : (i : Int) < (a.length : Int) := by omega
        obtain ⟨pa', capa', he, -, hcells⟩ := Ha1.out.below hb2
        simp only [Value.slice.injEq, true_and] at he
        obtain ⟨rfl, rfl⟩ := he
        obtain ⟨bb, oo, rfl, hc⟩ := hcells i hlt
        have hx : 0 ≤ a.getD i 0 ∧ a.getD i 0 ≤ 255 := Wa.out _ (by rw [List.getD_eq_getElem?_getD, List.getElem?_eq_getElem hlt]; exact List.getElem_mem hlt)
        generalize a.getD i 0 = x at *
        obtain ⟨k0, hk0, hk20⟩ := step_nat hx.1
        have hla := hI.disk.ok.lasts
        clear hcells
        rcases odd_or hx.1 with ho | ho
        · by_cases hs : 1 + (k0 : Int) ≤ (s : Int)
          · obtain ⟨e1, e2, -, -⟩ := seals_not hC (by omega) (1 + (k0 : Int)) hs (by omega)
            go_wp2_with fail
            first | rw [hk0] | skip
            refine (lawR_calls 0 ((i : Int) + 1) _).mono ?_
            rintro e w3 ⟨rfl, b3⟩
            have I3 := hI.keep b3
            have b3' := hb2.trans (b3.mono hb2.size)
            have u := hide (segPut_on w1 w3 _ S _ (1 + (k0 : Int)) (p : Int) 7 _ (lawR 0 ((i : Int) + 1)) I3 b3' (lawR_is 0 ((i : Int) + 1) w3) (lawR_small _ _).1 (lawR_small _ _).2.1 (lawR_small _ _).2.2 hp1 e1 e2)
            have HC := hide hC.more
            clear hI hb2 b3 hC I3 b3' e1
            go_wp2_with fail
            refine u.out.mono ?_
            rintro e w4 ⟨rfl, dg4, sg4, I4, b4, -⟩
            have I4' := hide I4
            have b4' := hide b4
            clear I4 b4 u
            go_wp2_with fail
            exact ⟨⟨i + 1, s, p, _, dg4, sg4, by omega, rfl, by first | rfl | go_num, by go_num, HC.out, I4'.out, b4'.out⟩, by simp [intOf]; omega⟩
          · obtain ⟨e1, hC2⟩ := seals_put hC hI.ok hla (by omega) (1 + (k0 : Int)) (by omega) (by omega)
            go_wp2_with fail
            first | rw [hk0] | skip
            refine (lawR_calls 0 ((i : Int) + 1) _).mono ?_
            rintro e w3 ⟨rfl, b3⟩
            have I3 := hI.keep b3
            have b3' := hb2.trans (b3.mono hb2.size)
            have u := hide (segPut_on w1 w3 _ S _ (1 + (k0 : Int)) (p : Int) 0 _ (lawR 0 ((i : Int) + 1)) I3 b3' (lawR_is 0 ((i : Int) + 1) w3) (lawR_small _ _).1 (lawR_small _ _).2.1 (lawR_small _ _).2.2 hp1 e1 rfl)
            have HC := hide hC2
            clear hI hb2 b3 hC I3 b3' e1
            go_wp2_with fail
            refine u.out.mono ?_
            rintro e w4 ⟨rfl, dg4, sg4, I4, b4, -⟩
            have I4' := hide I4
            have b4' := hide b4
            clear I4 b4 u
            go_wp2_with fail
            exact ⟨⟨i + 1, s, p + 1, _, dg4, sg4, by omega, rfl, by first | rfl | go_num, by go_num, HC.out, I4'.out, b4'.out⟩, by simp [intOf]; omega⟩
        · by_cases hs : 1 + (k0 : Int) ≤ (s : Int)
          · have hmax : max (s : Int) (1 + (k0 : Int)) = (s : Int) := by omega
            obtain ⟨-, -, e1, e2⟩ := seals_not hC (by omega) (1 + (k0 : Int)) hs (by omega)
            go_wp2_with fail
            first | rw [hk0] | skip
            have u := hide (segSeal_on w1 wr _ S _ (1 + (k0 : Int)) 0 7 hI hb2 hp1 e1 (by rw [e1, if_neg (by decide)]) e2)
            have HC := hide hC.more
            clear hI hb2 hC e1
            go_wp2_with fail
            refine u.out.mono ?_
            rintro e w4 ⟨rfl, dg4, sg4, I4, b4, -⟩
            have us := hide (segSealed_calls _ _ _ w4 I4)
            have I4' := hide I4
            have b4' := hide b4
            rw [HC.out.sealed] at us
            dsimp only at us
            clear I4 b4 u
            go_wp2_with fail
            refine us.out.mono ?_
            rintro e w5 ⟨rfl, hw5⟩
            subst hw5
            go_wp2_with fail
            exact ⟨⟨i + 1, s, p, _, dg4, sg4, by omega, by first | rfl | go_num, rfl, by go_num, HC.out, I4'.out, b4'.out⟩, by simp [intOf]; omega⟩
          · have hmax : max (s : Int) (1 + (k0 : Int)) = 1 + (k0 : Int) := by omega
            obtain ⟨e1, hC2⟩ := seals_seal hC (by omega) (k0 + 1) (by omega) (by omega)
            have hend := seals_end hC2
            have hcast : ((k0 + 1 : Nat) : Int) = 1 + (k0 : Int) := by omega
            rw [hcast] at e1 hC2 hend
            go_wp2_with fail
            first | rw [hk0] | skip
            have u := hide (segSeal_on w1 wr _ S _ (1 + (k0 : Int)) (p : Int) 0 hI hb2 hp1 e1 (by rw [e1, if_pos rfl]; exact hend) rfl)
            have HC := hide hC2
            clear hI hb2 hC e1
            go_wp2_with fail
            refine u.out.mono ?_
            rintro e w4 ⟨rfl, dg4, sg4, I4, b4, -⟩
            have us := hide (segSealed_calls _ _ _ w4 I4)
            have I4' := hide I4
            have b4' := hide b4
            rw [HC.out.sealed] at us
            dsimp only at us
            clear I4 b4 u
            go_wp2_with fail
            refine us.out.mono ?_
            rintro e w5 ⟨rfl, hw5⟩
            subst hw5
            go_wp2_with fail
            exact ⟨⟨i + 1, k0 + 1, p, _, dg4, sg4, by omega, by first | rfl | go_num, rfl, by go_num, HC.out, I4'.out, b4'.out⟩, by simp [intOf]; omega⟩
      · obtain rfl : i = a.length := by omega
        have hS := seals_crash hC hI.disk.ok.lasts
        have HI := hide hI
        have HB := hide hb2
        clear hI hb2 hC
        go_wp2_with fail
        refine (segCrash_on w1 wr _ S 0 HI.out HB.out (by decide) (by decide)).mono ?_
        rintro e w6 ⟨rfl, d6, b6, -⟩
        dsimp only at d6
        clear HI HB
        go_wp2_with fail
        refine (segOpen_on w1 w6 _ _ _ _ d6 b6 rfl).mono ?_
        rintro e w7 ⟨q7, dg7, sg7, c7, rfl, I7, b7, -⟩
        have us := hide (segSealed_calls _ _ _ w7 I7)
        rw [hS] at us
        dsimp only at us
        have B7 := hide b7
        clear d6 b6 I7 b7
        go_wp2_with fail
        refine us.out.mono ?_
        rintro e w8 ⟨rfl, hw8⟩
        subst hw8
        go_wp2_with fail
        go_ret
        exact ⟨by simp, b1.trans (B7.out.mono b1.size)⟩

end Go.Proofs.YtncmocmmkbmmjaaGreatDoor

/- What the proofs of the statements share: slices that came in. Own work; no statement. -/
set_option linter.unusedSimpArgs false
set_option linter.unusedVariables false
namespace Go.Proofs.YtncmocmmkbmmjaaGreatDoor
open Go.ChangeShapes Go.WideShapes Go.ChangeAt Go.RowKit

theorem own : ownKnob Tryz.prog.godebug = none := by kernel_rfl
theorem laidOut : laidOutB Tryz.prog = true := by kernel_rfl

/-- A slice of integers that came in: what it reads as; its numbers fit their kind. -/
theorem nums_of_open {H : Type} {enc : TypeId × Value → H} {W : World} {base : Nat} {sp : Nat → Bool} {held : Bool} {t e : TypeId} {k : IntKind} {fuel : Nat} {a : Option Addr} {len cap : Nat} {x : DataW H × List MemPlace}
    (ht : Tryz.prog.underlying t = some (.slice e)) (he : Tryz.prog.underlying e = some (.int k)) (hc : Tryz.prog.cellsOf e = 1) (h : DataW.trod enc Tryz.prog W base sp held fuel t [.slice a len cap] = some x) (hsp : ∀ b, sp b = true) :
    ∃ zs : List Int, IsNums k W (.slice a len cap) zs ∧ (∀ n ∈ zs, (Lit.int k n).wf = true) := by
  rcases open_ints ht he hc h with ⟨hcs, _⟩ | ⟨y, l, c, zs, hcs, _, hl, hm, hz, _, hcell, hwz⟩
  · simp at hcs
    obtain ⟨rfl, rfl, rfl⟩ := hcs
    exact ⟨[], IsNums.nil _ _ _ _, fun n hn => absurd hn (by simp)⟩
  · simp at hcs
    obtain ⟨rfl, rfl, rfl⟩ := hcs
    rw [hsp, if_pos rfl] at hz
    have hlen : (zs.take len).length = len := by simp; omega
    refine ⟨zs.take len, ⟨some y, cap, by rw [hlen], by omega, fun i hi => ?_⟩, fun n hn => hwz n (List.mem_of_mem_take hn)⟩
    obtain ⟨b, off, rfl, hc'⟩ := ints_at hcell (by omega)
    refine ⟨b, off, rfl, ?_⟩
    rw [hc' i (by omega)]
    simp [List.getD, List.getElem?_take, show i < len by omega]

end Go.Proofs.YtncmocmmkbmmjaaGreatDoor
