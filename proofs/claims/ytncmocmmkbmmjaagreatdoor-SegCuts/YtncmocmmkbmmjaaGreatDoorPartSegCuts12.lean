/- Own work: the parts S22, S23, WSegCuts, FrameP of the proof, laid together. -/
import Derived.Test.YtncmocmmkbmmjaaGreatDoorPartSegCuts11
import Derived.OpenShut
import Derived.Test.YtncmocmmkbmmjaaGreatDoorPartSegCuts1
import Derived.ProofKit
import Derived.ShutString
import Derived.ChangeOld
import Derived.Deep.DeepHandedRow
/- Lines that tell of a segment what it is: replayed they make it again. Pure laws. Own work; no statement. -/
set_option linter.unusedSimpArgs false
set_option linter.unusedVariables false
namespace Go.Proofs.YtncmocmmkbmmjaaGreatDoor

/-- Its disk's lines, one by one let hold, make the segment. -/
def Replay (S : SegD) : Prop := runE (emptyS S.D) S.D.lines 0 = (S, S.D.lines.length)

theorem applyS_with (S : SegD) (D : DiskD) (e : EntD) (k : Nat) : applyS { S with D := D } e k = { applyS S e k with D := D } := by
  unfold applyS
  repeat' split
  all_goals rfl

theorem runE_D (D : DiskD) : ∀ (l : List ByteArray) (S : SegD) (k : Nat), runE { S with D := D } l k = ({ (runE S l k).1 with D := D }, (runE S l k).2)
  | [], S, k => rfl
  | s :: l, S, k => by
    unfold runE
    cases parseE s.data.toList with
    | none => rfl
    | some e =>
      dsimp only
      rw [mayS_D]
      by_cases h : mayS S e = true
      · rw [if_pos h, if_pos h, applyS_with, runE_D D l]
      · rw [if_neg h, if_neg h]

theorem runE_snoc : ∀ (l : List ByteArray) (S S' : SegD) (k : Nat) (s : ByteArray) (e : EntD), runE S l k = (S', k + l.length) → parseE s.data.toList = some e → mayS S' e = true → runE S (l ++ [s]) k = (applyS S' e (k + l.length), k + l.length + 1)
  | [], S, S', k, s, e, h, hp, hm => by
    simp only [runE, List.length_nil, Nat.add_zero, Prod.mk.injEq, and_true] at h
    subst h
    simp only [List.nil_append, List.length_nil, Nat.add_zero]
    unfold runE
    rw [hp]
    dsimp only
    rw [if_pos hm]
    rfl
  | t :: l, S, S', k, s, e, h, hp, hm => by
    have hne : ∀ (n : Nat), k ≠ k + (n + 1) := fun n => by omega
    rw [List.cons_append]
    unfold runE at h ⊢
    cases ht : parseE t.data.toList with
    | none =>
      rw [ht] at h
      simp at h
    | some f =>
      rw [ht] at h
      dsimp only at h ⊢
      by_cases hf : mayS S f = true
      · rw [if_pos hf] at h ⊢
        have e1 : k + (t :: l).length = k + 1 + l.length := by simp; omega
        rw [e1] at h
        rw [e1]
        exact runE_snoc l _ S' (k + 1) s e h hp hm
      · rw [if_neg hf] at h
        simp at h

theorem replay_new (D : DiskD) (h : D.lines = []) : Replay (emptyS D) := by
  unfold Replay
  rw [show (emptyS D).D = D from rfl, h]
  rfl
theorem Replay.lasts {S : SegD} (h : Replay S) (D : DiskD) (hl : D.lines = S.D.lines) : Replay { S with D := D } := by
  unfold Replay at *
  dsimp only
  rw [hl]
  have := runE_D D S.D.lines (emptyS S.D) 0
  rw [h] at this
  exact this
theorem Replay.add {S : SegD} {e : EntD} (h : Replay S) (hm : mayS S e = true) (hp : parseE (textE e).data.toList = some e) (he : addE S e = 0) : Replay (addS S e) := by
  have hl := writeD_lines (D := S.D) (s := textE e) he
  have h1 : runE (emptyS S.D) (S.D.lines ++ [textE e]) 0 = (applyS S e S.D.lines.length, S.D.lines.length + 1) := by
    have := runE_snoc S.D.lines (emptyS S.D) S 0 (textE e) e (by rw [Nat.zero_add]; exact h) hp hm
    rwa [Nat.zero_add] at this
  have h2 := runE_D (writeD S.D (textE e)) (S.D.lines ++ [textE e]) (emptyS S.D) 0
  rw [h1] at h2
  unfold addS
  rw [if_pos he]
  unfold Replay
  rw [applyS_D]
  dsimp only
  rw [hl, applyS_with]
  simp only [List.length_append, List.length_singleton]
  exact h2
theorem Replay.last {S : SegD} {e : EntD} (h : Replay S) (hm : mayS S e = true) (hp : parseE (textE e).data.toList = some e) : Replay (lastS S e) := by
  unfold lastS
  by_cases he : addE S e = 0
  · rw [if_pos he]
    exact (h.add hm hp he).lasts _ rfl
  · rw [if_neg he]
    exact h
theorem Replay.open {S : SegD} (h : Replay S) : openS S.D = S := by
  unfold openS
  rw [h]
  dsimp only
  unfold openD
  rw [if_neg (by omega)]

/-! An entry in words. -/
theorem textE_list (e : EntD) : (textE e).data.toList = e.sign :: 32 :: (Lib.itoa e.n ++ (if e.sign = 112 then 32 :: (textR e.r).data.toList else [])) := by
  unfold textE
  split <;> simp [ByteArray.data_append]

theorem parse_textE {e : EntD} (h : EntW e) : parseE (textE e).data.toList = some { e with r := backR e.r } := by
  rw [textE_list, parseE_eq]
  have hs : e.sign ≠ 32 := by rcases h.sign with h | h | h | h <;> rw [h] <;> decide
  have hc : cutL (e.sign :: 32 :: (Lib.itoa e.n ++ (if e.sign = 112 then 32 :: (textR e.r).data.toList else []))) 32 = ([e.sign], Lib.itoa e.n ++ (if e.sign = 112 then 32 :: (textR e.r).data.toList else []), true) :=
    cut_at [e.sign] _ 32 (fun c hc => by rw [List.mem_singleton] at hc; rw [hc]; exact hs)
  rw [hc]
  dsimp only
  obtain ⟨sign, n, r⟩ := e
  dsimp only at *
  have hn := numL_itoa h.low h.high
  dsimp only at hn
  have hnum : ∀ c : UInt8, c ≠ 112 → sign = c → numE c (Lib.itoa n ++ (if sign = 112 then 32 :: (textR r).data.toList else [])) = some ⟨sign, n, backR r⟩ := by
    intro c hc e
    subst e
    have hz := h.zero hc
    dsimp only at hz
    rw [if_neg hc, List.append_nil, hz]
    unfold numE
    rw [hn]
    simp [backR, zeroR]
  rcases h.sign with hs' | hs' | hs' | hs'
  · have hs' : sign = 112 := hs'
    subst hs'
    rw [if_pos rfl, if_pos rfl]
    unfold putE
    rw [cut_at _ _ 32 (itoa_ne h.low (by decide))]
    dsimp only
    rw [hn, parse_textR (h.put rfl)]
    simp
  · have hs' : sign = 115 := hs'
    rw [if_neg (by rw [hs']; decide), if_pos (by rw [hs'])]
    exact hnum 115 (by decide) hs'
  · have hs' : sign = 99 := hs'
    rw [if_neg (by rw [hs']; decide), if_neg (by rw [hs']; decide), if_pos (by rw [hs'])]
    exact hnum 99 (by decide) hs'
  · have hs' : sign = 116 := hs'
    rw [if_neg (by rw [hs']; decide), if_neg (by rw [hs']; decide), if_neg (by rw [hs']; decide), if_pos (by rw [hs'])]
    exact hnum 116 (by decide) hs'

theorem nums_no10 {l : List Int} (h : InS l) : ∀ k, ∀ c ∈ numsTo l k, c ≠ 10
  | 0 => by simp [numsTo]
  | k + 1 => by
    intro c hc
    simp only [numsTo, List.mem_append] at hc
    rcases hc with hc | hc | hc
    · exact nums_no10 h k c hc
    · split at hc
      · simp at hc
      · simp at hc
        subst hc
        decide
    · rw [itoa_nat _ (getD_inS h k).1] at hc
      exact dig_ne (decDigits_all _ c hc) (by decide)

theorem textR_no10 {r : RecD} (h : GoodR r) : ∀ c ∈ (textR r).data.toList, c ≠ 10 := by
  obtain ⟨-, -, a3, -, a5, -, -, a8, -, a10, a11⟩ := check_parts h
  intro c hc
  rw [textR_list] at hc
  simp only [List.mem_append, List.mem_cons] at hc
  rcases hc with hc | rfl | hc | rfl | hc | rfl | hc | rfl | hc
  · exact itoa_ne a3 (by decide) c hc
  · decide
  · exact itoa_ne (by omega) (by decide) c hc
  · decide
  · unfold textL at hc
    simp only [List.mem_cons, List.mem_append, List.not_mem_nil, or_false] at hc
    rcases hc with rfl | hc | rfl
    · decide
    · exact nums_no10 a8 _ c hc
    · decide
  · decide
  · rintro rfl
    unfold isKeyL at a10
    simp only [Bool.and_eq_true, List.all_eq_true] at a10
    have := a10.2 10 hc
    revert this
    decide
  · decide
  · rintro rfl
    unfold checkValL at a11
    split at a11
    · rename_i hv
      rw [List.all_eq_true] at hv
      have := hv 10 hc
      revert this
      decide
    · cases a11
theorem textE_no10 {e : EntD} (h : EntW e) : ∀ c ∈ (textE e).data.toList, c ≠ 10 := by
  intro c hc
  rw [textE_list] at hc
  simp only [List.mem_append, List.mem_cons] at hc
  rcases hc with rfl | rfl | hc | hc
  · rcases h.sign with h | h | h | h <;> rw [h] <;> decide
  · decide
  · exact itoa_ne h.low (by decide) c hc
  · split at hc
    · rename_i hs
      rcases List.mem_cons.1 hc with rfl | hc
      · decide
      · exact textR_no10 (h.put hs) c hc
    · cases hc

end Go.Proofs.YtncmocmmkbmmjaaGreatDoor

/- What a segment has, by its slots alone: pure laws. Own work; no statement. -/
set_option linter.unusedSimpArgs false
set_option linter.unusedVariables false
namespace Go.Proofs.YtncmocmmkbmmjaaGreatDoor

theorem below_slot {S : SegD} (h : S.ok) {x : SlotD} (hx : x ∈ S.slots) : S.slots[belowN (poss S) x.pos]? = some x := by
  have hp : x.pos ∈ poss S := List.mem_map_of_mem hx
  have hat := (isAt_iff (poss S) x.pos (poss_pairwise h)).2 hp
  have hs := isAt_slot S x.pos
  rw [hat] at hs
  split at hs
  · cases hs
  · rename_i y e
    have hy : y.pos = x.pos := by simpa using hs.symm
    have hym : y ∈ S.slots := List.mem_of_getElem? e
    have : y = x := by
      obtain ⟨i, hi, rfl⟩ := List.mem_iff_getElem.1 hym
      obtain ⟨j, hj, rfl⟩ := List.mem_iff_getElem.1 hx
      rcases Nat.lt_trichotomy i j with h1 | h1 | h1
      · have := List.pairwise_iff_getElem.1 h.rising i j hi hj h1
        omega
      · subst h1
        rfl
      · have := List.pairwise_iff_getElem.1 h.rising j i hj hi h1
        omega
    rw [e, this]
theorem not_at {S : SegD} (h : S.ok) {pos : Int} (hx : ∀ x ∈ S.slots, x.pos ≠ pos) : isAt (poss S) pos = false := by
  rw [Bool.eq_false_iff]
  intro e
  have := (isAt_iff (poss S) pos (poss_pairwise h)).1 e
  unfold poss at this
  obtain ⟨x, h1, h2⟩ := List.mem_map.1 this
  exact hx x h1 h2

theorem getS_mem {S : SegD} (h : S.ok) {x : SlotD} (hx : x ∈ S.slots) : getS S x.pos = (x.r, 0) := by
  have := (h.each x hx).2.2.1
  unfold getS
  rw [if_neg (by omega), below_slot h hx]
  dsimp only
  rw [if_pos rfl]
theorem getS_none {S : SegD} (h : S.ok) {pos : Int} (ht : ¬ pos < S.trim) (hx : ∀ x ∈ S.slots, x.pos ≠ pos) : getS S pos = (zeroR, 9) := getS_not ht (not_at h hx)
theorem getS_trim {S : SegD} {pos : Int} (ht : pos < S.trim) : getS S pos = (zeroR, 8) := by unfold getS; rw [if_pos ht]

theorem lastsS_mem {S : SegD} (h : S.ok) {x : SlotD} (hx : x ∈ S.slots) : lastsS S x.pos = decide (x.line < S.D.lasts) := by
  unfold lastsS
  rw [below_slot h hx]
  dsimp only
  rw [decide_eq_true rfl, Bool.true_and]
theorem lastsS_none {S : SegD} (h : S.ok) {pos : Int} (hx : ∀ x ∈ S.slots, x.pos ≠ pos) : lastsS S pos = false := by
  have := isAt_slot S pos
  rw [not_at h hx] at this
  unfold lastsS
  split
  · rfl
  · rename_i x e
    rw [e] at this
    dsimp only at this
    rw [← this, Bool.false_and]

theorem ins_mem {α : Type} (l : List α) (i : Nat) (y x : α) : x ∈ insL l i y ↔ x ∈ l ∨ x = y := by
  unfold insL
  rw [List.mem_append, List.mem_cons]
  constructor
  · rintro (h | h | h)
    · exact .inl (List.mem_of_mem_take h)
    · exact .inr h
    · exact .inl (List.mem_of_mem_drop h)
  · rintro (h | h)
    · rw [← List.take_append_drop i l, List.mem_append] at h
      exact h.imp id .inr
    · exact .inr (.inl h)
theorem cut_mem {S : SegD} (h : S.ok) (n : Int) (x : SlotD) : x ∈ S.slots.take (belowN (poss S) n) ↔ x ∈ S.slots ∧ x.pos < n := by
  have hs := slots_split h n
  constructor
  · exact fun hx => ⟨List.mem_of_mem_take hx, hs.1 x hx⟩
  · rintro ⟨h1, h2⟩
    rw [← List.take_append_drop (belowN (poss S) n) S.slots, List.mem_append] at h1
    rcases h1 with h1 | h1
    · exact h1
    · have := hs.2 x h1
      omega
theorem trim_mem {S : SegD} (h : S.ok) (n : Int) (x : SlotD) : x ∈ S.slots.drop (belowN (poss S) n) ↔ x ∈ S.slots ∧ n ≤ x.pos := by
  have hs := slots_split h n
  constructor
  · exact fun hx => ⟨List.mem_of_mem_drop hx, hs.2 x hx⟩
  · rintro ⟨h1, h2⟩
    rw [← List.take_append_drop (belowN (poss S) n) S.slots, List.mem_append] at h1
    rcases h1 with h1 | h1
    · have := hs.1 x h1
      omega
    · exact h1

/-- There is room: an entry is written. -/
theorem addE_room {S : SegD} {e : EntD} (he : EntW e) (h : (bytesOf S.D.lines : Int) + 401 ≤ S.D.room) : addE S e = 0 := by
  unfold addE writeE
  have h1 : hasEnd (textE e) = false := by
    unfold hasEnd
    rw [decide_eq_false_iff_not]
    exact fun hm => textE_no10 he 10 hm rfl
  have h2 := textE_size he
  rw [if_neg (by rw [h1]; decide), if_neg (by omega)]
/-- What add makes, field by field. -/
theorem addS_ok {S : SegD} {e : EntD} (h : addE S e = 0) : addS S e = { applyS S e S.D.lines.length with D := ⟨S.D.room, S.D.lines ++ [textE e], S.D.lasts⟩ } := by
  unfold addS
  rw [if_pos h, applyS_with]
  unfold addE at h
  unfold writeD
  rw [if_pos h]
theorem lastS_ok {S : SegD} {e : EntD} (h : addE S e = 0) : lastS S e = { applyS S e S.D.lines.length with D := ⟨S.D.room, S.D.lines ++ [textE e], S.D.lines.length + 1⟩ } := by
  unfold lastS
  rw [if_pos h, addS_ok h]
  simp
theorem bytes_add {l : List ByteArray} {e : EntD} (he : EntW e) : bytesOf (l ++ [textE e]) ≤ bytesOf l + 401 := by
  have := textE_size he
  rw [bytesOf_append]
  simp [bytesOf]
  omega

theorem lawR_good {site seq : Int} (h0 : 0 ≤ site) (h1 : site < 8) (h2 : 1 ≤ seq) (h3 : seq ≤ 1048576) : GoodR (lawR site seq) := by
  unfold GoodR checkR lawR
  dsimp only
  rw [if_neg (by omega), if_pos (by decide +kernel), if_neg (by
    have : geti [] site = 0 := by unfold geti; split <;> simp
    omega), if_pos (by decide +kernel)]
  decide +kernel
theorem back_lawR (site seq : Int) : backR (lawR site seq) = lawR site seq := rfl

theorem put_w {pos : Int} {r : RecD} (h0 : 0 ≤ pos) (h1 : pos ≤ 2147483647) (hg : GoodR r) : EntW ⟨112, pos, r⟩ := ⟨.inl rfl, h0, h1, fun _ => hg, fun h => absurd rfl h⟩

/-- All lasts: nothing is lost. -/
theorem crash_all {D : DiskD} (h : D.lasts = D.lines.length) (keep : Int) : crashD D keep = D := by
  have hw : wholeN D keep = D.lines.length := by
    unfold wholeN
    rw [h, List.drop_eq_nil_of_le (Nat.le_refl _)]
    simp [keepN]
  unfold crashD
  rw [hw, List.take_of_length_le (Nat.le_refl _)]
  cases D
  dsimp only at *
  rw [h]

end Go.Proofs.YtncmocmmkbmmjaaGreatDoor

/- The walk of SegCuts. Own work; no statement. -/
set_option linter.unusedSimpArgs false
set_option linter.unusedVariables false
namespace Go.Proofs.YtncmocmmkbmmjaaGreatDoor
open Go.RowKit Go.Shelf Go.Sort

/-- Behind k puts, at nought and on. -/
structure Cuts (k : Nat) (S : SegD) : Prop where
  sealed : S.sealed = 0
  trim : S.trim = 0
  mem : ∀ x, x ∈ S.slots ↔ ∃ i : Nat, i < k ∧ x = ⟨(i : Int), i, lawR 0 ((i : Int) + 1)⟩
  rep : Replay S
  room : S.D.room = 100000
  bytes : bytesOf S.D.lines ≤ 401 * k
  len : S.D.lines.length = k

theorem cuts_start : Cuts 0 freshS := ⟨rfl, rfl, fun x => ⟨fun h => (by cases h), fun ⟨i, h, _⟩ => absurd h (by omega)⟩, replay_new _ rfl, rfl, by decide, rfl⟩

theorem cuts_put {k : Nat} {S : SegD} (h : Cuts k S) (hok : S.ok) (hk : k < 40) : segPutE S 1 (k : Int) (lawR 0 ((k : Int) + 1)) = 0 ∧ Cuts (k + 1) (segPutS S 1 (k : Int) (lawR 0 ((k : Int) + 1))) := by
  have hg : GoodR (lawR 0 ((k : Int) + 1)) := lawR_good (by omega) (by omega) (by omega) (by omega)
  have hw : EntW ⟨112, (k : Int), lawR 0 ((k : Int) + 1)⟩ := put_w (by omega) (by omega) hg
  have hn : ∀ x ∈ S.slots, x.pos ≠ (k : Int) := fun x hx => by
    obtain ⟨i, hi, rfl⟩ := (h.mem x).1 hx
    dsimp only
    omega
  have hat := not_at hok hn
  have hb := h.bytes
  have hr := h.room
  have hadd : addE S ⟨112, (k : Int), lawR 0 ((k : Int) + 1)⟩ = 0 := addE_room hw (by omega)
  have hm : mayS S ⟨112, (k : Int), lawR 0 ((k : Int) + 1)⟩ = true := by
    unfold mayS
    dsimp only
    rw [if_pos rfl, hat, h.trim, decide_eq_true (by omega)]
    rfl
  have e1 : segPutE S 1 (k : Int) (lawR 0 ((k : Int) + 1)) = 0 := by
    unfold segPutE
    rw [if_neg (by omega), if_neg (by rw [h.sealed]; omega), if_neg (by rw [h.trim]; omega), if_neg (by rw [hat]; decide), if_pos (show checkR _ 8 = 0 from hg)]
    exact hadd
  have e2 : segPutS S 1 (k : Int) (lawR 0 ((k : Int) + 1)) = addS S ⟨112, (k : Int), lawR 0 ((k : Int) + 1)⟩ := by
    unfold segPutS
    rw [if_neg (by omega), if_neg (by rw [h.sealed]; omega), if_neg (by rw [h.trim]; omega), if_neg (by rw [hat]; decide), if_pos (show checkR _ 8 = 0 from hg)]
  refine ⟨e1, ?_⟩
  rw [e2]
  have hrep := h.rep.add hm (by rw [parse_textE hw]; rfl) hadd
  rw [addS_ok hadd] at hrep ⊢
  have hap : applyS S ⟨112, (k : Int), lawR 0 ((k : Int) + 1)⟩ S.D.lines.length = { S with slots := insL S.slots (belowN (poss S) (k : Int)) ⟨(k : Int), S.D.lines.length, lawR 0 ((k : Int) + 1)⟩ } := by unfold applyS; rw [if_pos rfl]
  rw [hap] at hrep ⊢
  refine ⟨h.sealed, h.trim, fun x => ?_, hrep, h.room, ?_, ?_⟩
  · dsimp only
    rw [ins_mem, h.mem, h.len]
    constructor
    · rintro (⟨i, hi, rfl⟩ | rfl)
      · exact ⟨i, by omega, rfl⟩
      · exact ⟨k, by omega, rfl⟩
    · rintro ⟨i, hi, rfl⟩
      rcases Nat.lt_or_ge i k with h1 | h1
      · exact .inl ⟨i, h1, rfl⟩
      · obtain rfl : i = k := by omega
        exact .inr rfl
  · have := bytes_add (l := S.D.lines) hw
    dsimp only
    omega
  · have := h.len
    simp
    omega

/-- Cut at b, trimmed at a. -/
structure CutDone (k a b : Nat) (S : SegD) : Prop where
  trim : S.trim = (a : Int)
  mem : ∀ x, x ∈ S.slots ↔ ∃ i : Nat, i < k ∧ i < b ∧ a ≤ i ∧ x = ⟨(i : Int), i, lawR 0 ((i : Int) + 1)⟩
  rep : Replay S
  lasts : S.D.lasts = S.D.lines.length
  len : k < S.D.lines.length

theorem cuts_cut {k b : Nat} {S : SegD} (h : Cuts k S) (hok : S.ok) (hk : k < 40) (hb : b < 40) : segCutE S (b : Int) = 0 ∧ CutDone k 0 b (segCutS S (b : Int)) ∧ (segCutS S (b : Int)).D.room = 100000 ∧ bytesOf (segCutS S (b : Int)).D.lines ≤ 401 * (k + 1) := by
  have hw : EntW (entN 99 (b : Int)) := entN_w (.inr (.inl rfl)) (by omega) (by omega)
  have hbt := h.bytes
  have hr := h.room
  have hadd : addE S (entN 99 (b : Int)) = 0 := addE_room hw (by omega)
  have hm : mayS S (entN 99 (b : Int)) = true := rfl
  have hrep := h.rep.last hm (by rw [parse_textE hw]; rfl)
  have e2 : segCutS S (b : Int) = { S with slots := S.slots.take (belowN (poss S) (b : Int)), D := ⟨S.D.room, S.D.lines ++ [textE (entN 99 (b : Int))], S.D.lines.length + 1⟩ } := by
    unfold segCutS
    rw [if_neg (by omega), lastS_ok hadd]
    rfl
  rw [← show segCutS S (b : Int) = lastS S (entN 99 (b : Int)) by unfold segCutS; rw [if_neg (by omega)]] at hrep
  refine ⟨by unfold segCutE; rw [if_neg (by omega)]; exact hadd, ?_, ?_, ?_⟩
  · rw [e2] at hrep ⊢
    refine ⟨by rw [h.trim]; rfl, fun x => ?_, hrep, by simp, by have := h.len; simp; omega⟩
    dsimp only
    rw [cut_mem hok, h.mem]
    constructor
    · rintro ⟨⟨i, hi, rfl⟩, h2⟩
      dsimp only at h2
      exact ⟨i, hi, by omega, by omega, rfl⟩
    · rintro ⟨i, h1, h2, -, rfl⟩
      exact ⟨⟨i, h1, rfl⟩, by dsimp only; omega⟩
  · rw [e2]
    exact h.room
  · rw [e2]
    have := bytes_add (l := S.D.lines) hw
    dsimp only
    omega

theorem cuts_trim {k a b : Nat} {S : SegD} (h : CutDone k 0 b S) (hok : S.ok) (hr : S.D.room = 100000) (hb : bytesOf S.D.lines ≤ 401 * (k + 1)) (hk : k < 40) (ha : a < 40) : CutDone k a b (segTrimS S (a : Int)) := by
  unfold segTrimS
  by_cases h0 : S.trim < (a : Int) ∧ (a : Int) ≤ 2147483647
  · rw [if_pos h0]
    have hw : EntW (entN 116 (a : Int)) := entN_w (.inr (.inr rfl)) (by omega) (by omega)
    have hadd : addE S (entN 116 (a : Int)) = 0 := addE_room hw (by omega)
    have hm : mayS S (entN 116 (a : Int)) = true := by
      unfold mayS entN
      dsimp only
      rw [if_neg (by decide), if_neg (by decide), if_pos rfl, decide_eq_true h0.1]
    have hrep := h.rep.last hm (by rw [parse_textE hw]; rfl)
    have e2 : lastS S (entN 116 (a : Int)) = { S with slots := S.slots.drop (belowN (poss S) (a : Int)), trim := (a : Int), D := ⟨S.D.room, S.D.lines ++ [textE (entN 116 (a : Int))], S.D.lines.length + 1⟩ } := by
      rw [lastS_ok hadd]
      rfl
    rw [e2] at hrep ⊢
    refine ⟨rfl, fun x => ?_, hrep, by simp, by have := h.len; simp; omega⟩
    dsimp only
    rw [trim_mem hok, h.mem]
    constructor
    · rintro ⟨⟨i, h1, h2, -, rfl⟩, h3⟩
      dsimp only at h3
      exact ⟨i, h1, h2, by omega, rfl⟩
    · rintro ⟨i, h1, h2, h3, rfl⟩
      exact ⟨⟨i, h1, h2, by omega, rfl⟩, by dsimp only; omega⟩
  · rw [if_neg h0]
    have ht := h.trim
    obtain rfl : a = 0 := by omega
    exact h

/-- What each position tells then. -/
theorem cuts_get {k a b : Nat} {S : SegD} (h : CutDone k a b S) (hok : S.ok) (i : Nat) :
    getS S (i : Int) = (if i < a then (zeroR, 8) else if b ≤ i ∨ k ≤ i then (zeroR, 9) else (lawR 0 ((i : Int) + 1), 0)) ∧ lastsS S (i : Int) = decide (a ≤ i ∧ i < b ∧ i < k) := by
  have hl := h.lasts
  have hlen := h.len
  have hnone : ¬ (i < k ∧ i < b ∧ a ≤ i) → ∀ x ∈ S.slots, x.pos ≠ (i : Int) := fun hh x hx e => by
    obtain ⟨j, h1, h2, h3, rfl⟩ := (h.mem x).1 hx
    dsimp only at e
    omega
  by_cases h0 : i < a
  · rw [if_pos h0, decide_eq_false (by omega)]
    exact ⟨getS_trim (by rw [h.trim]; omega), lastsS_none hok (hnone (by omega))⟩
  · rw [if_neg h0]
    by_cases h1 : b ≤ i ∨ k ≤ i
    · rw [if_pos h1, decide_eq_false (by omega)]
      exact ⟨getS_none hok (by rw [h.trim]; omega) (hnone (by omega)), lastsS_none hok (hnone (by omega))⟩
    · rw [if_neg h1, decide_eq_true (by omega)]
      have hm := (h.mem ⟨(i : Int), i, lawR 0 ((i : Int) + 1)⟩).2 ⟨i, by omega, by omega, by omega, rfl⟩
      refine ⟨getS_mem hok hm, ?_⟩
      have := lastsS_mem hok hm
      dsimp only at this
      rw [this]
      exact decide_eq_true (by omega)

theorem lawR_small (site seq : Int) : (lawR site seq).dep.length ≤ 1099511627776 ∧ (lawR site seq).key.size ≤ 1099511627776 ∧ (lawR site seq).val.size ≤ 1099511627776 := ⟨(by decide : 0 ≤ 1099511627776), (by decide : 1 ≤ 1099511627776), (by decide : 0 ≤ 1099511627776)⟩
theorem rem_nat {n m : Int} (h : 0 ≤ n) (hm : 0 < m) : ∃ k : Nat, Int.tmod n m = (k : Int) ∧ (k : Int) < m := by
  have h1 := Int.emod_nonneg n (show m ≠ 0 by omega)
  have h2 := Int.emod_lt_of_pos n hm
  refine ⟨(n % m).toNat, ?_, by omega⟩
  rw [Int.tmod_eq_emod_of_nonneg h]
  omega

set_option maxRecDepth 100000 in
set_option maxHeartbeats 8000000 in
theorem segCuts_main (n : Int) (fr : Int) (to : Int) (w : World) (wn : (Lit.int .u8 n).wf = true) (wf : (Lit.int .u8 fr).wf = true) (wt : (Lit.int .u8 to).wf = true) (hp : Pow w) :
    Calls Tryz.prog 6 #[.int .u8 n, .int .u8 fr, .int .u8 to] w fun e w' => e = .returned (.bool true) ∧ Below w.heap.size w w' := by
  have n0 : 0 ≤ n ∧ n ≤ 255 := bounds_u8 wn
  have f0 : 0 ≤ fr ∧ fr ≤ 255 := bounds_u8 wf
  have t0 : 0 ≤ to ∧ to ≤ 255 := bounds_u8 wt
  go_enter Tryz.func6, Tryz.ntmps6
  go_wp2_with fail
  refine (segKnown_calls w hp).mono ?_
  rintro e w1 ⟨rfl, b1⟩
  go_wp2_with fail
  refine (fresh_calls w1).mono ?_
  rintro e w2 ⟨m, rfl, I2, b2⟩
  obtain ⟨k, hk, hk30⟩ := rem_nat n0.1 (show (0 : Int) < 30 by decide)
  obtain ⟨a, ha, ha32⟩ := rem_nat f0.1 (show (0 : Int) < 32 by decide)
  obtain ⟨b, hb, hb32⟩ := rem_nat t0.1 (show (0 : Int) < 32 by decide)
  have hp1 : Pow w1 := hp.below b1
  go_wp2_with fail
  go_loopw [10] (fun i wr => ∃ (j : Nat) (S : SegD) (dg sg : Option Nat), j ≤ k ∧ i = .int .i64 (j : Int) ∧ Cuts j S ∧ IsSeg wr w1.heap.size ⟨m.p, m.dp, dg, sg, m.c⟩ S ∧ Below w1.heap.size w1 wr) (fun i _ => k - (intOf i).toNat)
  case atStart => exact ⟨0, freshS, m.dg, m.sg, Nat.zero_le _, rfl, cuts_start, I2, b2⟩
  case round =>
    obtain ⟨j, S, dg, sg, hj, rfl, hC, hI, hb2⟩ := hrel
    clear I2 b2
    by_cases hlt : j < k
    · have hltI : (j : Int) < (k : Int) := by omega
      obtain ⟨hE, hC2⟩ := cuts_put hC hI.ok (by omega)
      go_wp2_with fail
      refine (lawR_calls 0 ((j : Int) + 1) _).mono ?_
      rintro e w3 ⟨rfl, b3⟩
      have I3 := hI.keep b3
      have b3' := hb2.trans (b3.mono hb2.size)
      have u := hide (segPut_on w1 w3 _ S _ 1 (j : Int) 0 _ (lawR 0 ((j : Int) + 1)) I3 b3' (lawR_is 0 ((j : Int) + 1) w3) (lawR_small _ _).1 (lawR_small _ _).2.1 (lawR_small _ _).2.2 hp1 hE rfl)
      have HC := hide hC2
      clear hI hb2 b3 hC hE hC2 I3 b3'
      go_wp2_with fail
      refine u.out.mono ?_
      rintro e w4 ⟨rfl, dg4, sg4, I4, b4, -⟩
      have I4' := hide I4
      have b4' := hide b4
      clear I4 b4 u
      go_wp2_with fail
      exact ⟨⟨j + 1, _, dg4, sg4, by omega, by go_num, HC.out, I4'.out, b4'.out⟩, by simp [intOf]; omega⟩
    · obtain rfl : j = k := by omega
      obtain ⟨hE, hC2, hr2, hby2⟩ := cuts_cut (b := b) hC hI.ok (by omega) (by omega)
      have u := hide (segCut_on w1 wr _ S _ (b : Int) 0 hI hb2 hp1 hE rfl)
      clear hC hI hb2 hE
      go_wp2_with fail
      refine u.out.mono ?_
      rintro e w4 ⟨rfl, dg4, sg4, I4, b4, -⟩
      dsimp only at I4
      obtain hC3 := cuts_trim (a := a) hC2 I4.ok hr2 hby2 (by omega) (by omega)
      have u2 := hide (segTrim_on w1 w4 _ _ _ (a : Int) I4 b4 hp1 rfl)
      clear u hC2 hr2 hby2 I4 b4
      go_wp2_with fail
      refine u2.out.mono ?_
      rintro e w5 ⟨rfl, dg5, sg5, I5, b5, -⟩
      dsimp only at I5
      generalize segTrimS (segCutS S (b : Int)) (a : Int) = S5 at *
      have hok5 := I5.ok
      clear u2
      go_wp2_with fail
      refine (segCrash_on w1 w5 _ S5 0 I5 b5 (by decide) (by decide)).mono ?_
      rintro e w6 ⟨rfl, d6, b6, -⟩
      rw [crash_all hC3.lasts] at d6
      dsimp only at d6
      clear I5 b5
      go_wp2_with fail
      refine (segOpen_on w1 w6 _ _ _ S5 d6 b6 hC3.rep.open).mono ?_
      rintro e w7 ⟨q7, dg7, sg7, c7, rfl, I7, b7, -⟩
      clear d6 b6
      have HI7 := hide I7
      have Hb7 := hide b7
      clear I7 b7
      go_wp2_with fail
      go_loopw [15] (fun i wr => ∃ (l : Nat), l ≤ 34 ∧ i = .int .i64 (l : Int) ∧ IsSeg wr w1.heap.size ⟨q7, m.dp, dg7, sg7, c7⟩ S5 ∧ Below w1.heap.size w1 wr) (fun i _ => 34 - (intOf i).toNat)
      case atStart => exact ⟨0, by omega, rfl, HI7.out, Hb7.out⟩
      case round =>
        obtain ⟨l, hl, rfl, hI, hb2⟩ := hrel
        clear HI7 Hb7
        by_cases hlt : l < 34
        · have hltI : (l : Int) < 34 := by omega
          obtain ⟨hg, hla⟩ := cuts_get hC3 hok5 l
          by_cases ha0 : l < a
          · have haI : (l : Int) < (a : Int) := by omega
            rw [if_pos ha0] at hg
            rw [decide_eq_false (by omega)] at hla
            have u := hide (segGet_on w1 wr _ S5 (l : Int) 8 0 hI hb2 (by rw [hg]) (by rw [hg]; rfl))
            clear hg hI hb2
            go_wp2_with fail
            refine u.out.mono ?_
            rintro e w8 ⟨s8, a8, l8, c8, k8', z8, rfl, I8, b8, -⟩
            go_wp2_with fail
            have b9 := b8.alloc b8.size (.cells #[.int .i64 s8, .int .i64 0, .slice a8 l8 c8, .string k8', .string z8] 57)
            have I9 := I8.keep (box_below w8 (.cells #[.int .i64 s8, .int .i64 0, .slice a8 l8 c8, .string k8', .string z8] 57))
            have u9 := hide (segLasts_on w1 _ _ S5 (l : Int) false I9 b9 hla)
            clear u I8 b8 b9 I9
            go_wp2_with fail
            refine u9.out.mono ?_
            rintro e w10 ⟨rfl, I10, b10, -⟩
            have I10' := hide I10
            have b10' := hide b10
            clear I10 b10 u9
            go_wp2_with fail
            exact ⟨⟨l + 1, by omega, by go_num, I10'.out, b10'.out⟩, by simp [intOf]; omega⟩
          · have haI : ¬ (l : Int) < (a : Int) := by omega
            rw [if_neg ha0] at hg
            by_cases hb0 : b ≤ l
            · have hbI : (b : Int) ≤ (l : Int) := by omega
              rw [if_pos (.inl hb0)] at hg
              rw [decide_eq_false (by omega)] at hla
              have u := hide (segGet_on w1 wr _ S5 (l : Int) 9 0 hI hb2 (by rw [hg]) (by rw [hg]; rfl))
              clear hg hI hb2
              go_wp2_with fail
              refine u.out.mono ?_
              rintro e w8 ⟨s8, a8, l8, c8, k8', z8, rfl, I8, b8, -⟩
              go_wp2_with fail
              have b9 := b8.alloc b8.size (.cells #[.int .i64 s8, .int .i64 0, .slice a8 l8 c8, .string k8', .string z8] 57)
              have I9 := I8.keep (box_below w8 (.cells #[.int .i64 s8, .int .i64 0, .slice a8 l8 c8, .string k8', .string z8] 57))
              have u9 := hide (segLasts_on w1 _ _ S5 (l : Int) false I9 b9 hla)
              clear u I8 b8 b9 I9
              go_wp2_with fail
              refine u9.out.mono ?_
              rintro e w10 ⟨rfl, I10, b10, -⟩
              have I10' := hide I10
              have b10' := hide b10
              clear I10 b10 u9
              go_wp2_with fail
              exact ⟨⟨l + 1, by omega, by go_num, I10'.out, b10'.out⟩, by simp [intOf]; omega⟩
            · have hbI : ¬ (b : Int) ≤ (l : Int) := by omega
              by_cases hk0 : j ≤ l
              · have hkI : (j : Int) ≤ (l : Int) := by omega
                rw [if_pos (.inr hk0)] at hg
                rw [decide_eq_false (by omega)] at hla
                have u := hide (segGet_on w1 wr _ S5 (l : Int) 9 0 hI hb2 (by rw [hg]) (by rw [hg]; rfl))
                clear hg hI hb2
                go_wp2_with fail
                refine u.out.mono ?_
                rintro e w8 ⟨s8, a8, l8, c8, k8', z8, rfl, I8, b8, -⟩
                go_wp2_with fail
                have b9 := b8.alloc b8.size (.cells #[.int .i64 s8, .int .i64 0, .slice a8 l8 c8, .string k8', .string z8] 57)
                have I9 := I8.keep (box_below w8 (.cells #[.int .i64 s8, .int .i64 0, .slice a8 l8 c8, .string k8', .string z8] 57))
                have u9 := hide (segLasts_on w1 _ _ S5 (l : Int) false I9 b9 hla)
                clear u I8 b8 b9 I9
                go_wp2_with fail
                refine u9.out.mono ?_
                rintro e w10 ⟨rfl, I10, b10, -⟩
                have I10' := hide I10
                have b10' := hide b10
                clear I10 b10 u9
                go_wp2_with fail
                exact ⟨⟨l + 1, by omega, by go_num, I10'.out, b10'.out⟩, by simp [intOf]; omega⟩
              · have hkI : ¬ (j : Int) ≤ (l : Int) := by omega
                rw [if_neg (by omega)] at hg
                rw [decide_eq_true (by omega)] at hla
                have u := hide (segGet_on w1 wr _ S5 (l : Int) 0 ((l : Int) + 1) hI hb2 (by rw [hg]) (by rw [hg]; rfl))
                clear hg hI hb2
                go_wp2_with fail
                refine u.out.mono ?_
                rintro e w8 ⟨s8, a8, l8, c8, k8', z8, rfl, I8, b8, -⟩
                go_wp2_with fail
                have b9 := b8.alloc b8.size (.cells #[.int .i64 s8, .int .i64 ((l : Int) + 1), .slice a8 l8 c8, .string k8', .string z8] 57)
                have I9 := I8.keep (box_below w8 (.cells #[.int .i64 s8, .int .i64 ((l : Int) + 1), .slice a8 l8 c8, .string k8', .string z8] 57))
                have u9 := hide (segLasts_on w1 _ _ S5 (l : Int) true I9 b9 hla)
                clear u I8 b8 b9 I9
                go_wp2_with fail
                refine u9.out.mono ?_
                rintro e w10 ⟨rfl, I10, b10, -⟩
                have I10' := hide I10
                have b10' := hide b10
                clear I10 b10 u9
                go_wp2_with fail
                exact ⟨⟨l + 1, by omega, by go_num, I10'.out, b10'.out⟩, by simp [intOf]; omega⟩
        · obtain rfl : l = 34 := by omega
          go_wp2_with fail
          go_ret
          exact ⟨rfl, b1.trans (hb2.mono b1.size)⟩

end Go.Proofs.YtncmocmmkbmmjaaGreatDoor

/- What the proofs of the statements share: slices that came in. Own work; no statement. -/
set_option linter.unusedSimpArgs false
set_option linter.unusedVariables false
namespace Go.Proofs.YtncmocmmkbmmjaaGreatDoor
open Go.ChangeShapes Go.WideShapes Go.ChangeAt Go.RowKit

theorem own : ownKnob Tryz.prog.godebug = none := by kernel_rfl
theorem laidOut : laidOutB Tryz.prog = true := by kernel_rfl

/-- A slice of integers that came in: what it reads as; its numbers fit their kind. -/
theorem nums_of_open {H : Type} {enc : TypeId × Value → H} {W : World} {base : Nat} {sp : Nat → Bool} {held : Bool} {t e : TypeId} {k : IntKind} {fuel : Nat} {a : Option Addr} {len cap : Nat} {x : DataW H × List MemPlace}
    (ht : Tryz.prog.underlying t = some (.slice e)) (he : Tryz.prog.underlying e = some (.int k)) (hc : Tryz.prog.cellsOf e = 1) (h : DataW.trod enc Tryz.prog W base sp held fuel t [.slice a len cap] = some x) (hsp : ∀ b, sp b = true) :
    ∃ zs : List Int, IsNums k W (.slice a len cap) zs ∧ (∀ n ∈ zs, (Lit.int k n).wf = true) := by
  rcases open_ints ht he hc h with ⟨hcs, _⟩ | ⟨y, l, c, zs, hcs, _, hl, hm, hz, _, hcell, hwz⟩
  · simp at hcs
    obtain ⟨rfl, rfl, rfl⟩ := hcs
    exact ⟨[], IsNums.nil _ _ _ _, fun n hn => absurd hn (by simp)⟩
  · simp at hcs
    obtain ⟨rfl, rfl, rfl⟩ := hcs
    rw [hsp, if_pos rfl] at hz
    have hlen : (zs.take len).length = len := by simp; omega
    refine ⟨zs.take len, ⟨some y, cap, by rw [hlen], by omega, fun i hi => ?_⟩, fun n hn => hwz n (List.mem_of_mem_take hn)⟩
    obtain ⟨b, off, rfl, hc'⟩ := ints_at hcell (by omega)
    refine ⟨b, off, rfl, ?_⟩
    rw [hc' i (by omega)]
    simp [List.getD, List.getElem?_take, show i < len by omega]

end Go.Proofs.YtncmocmmkbmmjaaGreatDoor
