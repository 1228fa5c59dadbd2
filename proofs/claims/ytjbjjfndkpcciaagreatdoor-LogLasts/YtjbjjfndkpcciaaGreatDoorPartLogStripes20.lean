/- Own work: the parts G29, G30, G31, G32, G33 of the proof, laid together. -/
import Derived.Test.YtjbjjfndkpcciaaGreatDoorPartLogStripes19
import Derived.Test.YtjbjjfndkpcciaaGreatDoorPartLogStripes11
/- Logs in order: synced; fallen and up again. Pure laws. Own work; no statement. -/
set_option linter.unusedSimpArgs false
set_option linter.unusedVariables false
namespace Go.Proofs.YtjbjjfndkpcciaaGreatDoor

section
variable {L : LogD} {f : Int → RecD} {N : Nat}

/-- Whose segments and map are the same, that lasts the same. -/
theorem lasts_of {L M : LogD} (h1 : L.segs = M.segs) (h2 : L.map = M.map) (p : Int) : L.lasts p = M.lasts p ∧ L.at p = M.at p ∧ L.k p = M.k p := by
  have hk : L.k p = M.k p := by unfold LogD.k; rw [h2]
  have ha : L.at p = M.at p := by unfold LogD.at; rw [hk, h1]
  exact ⟨by unfold LogD.lasts; rw [ha], ha, hk⟩
theorem Adv.of {L M : LogD} (h1 : L.segs = M.segs) (h2 : L.map = M.map) {a b : Int} (h : L.Adv a b) : M.Adv a b :=
  ⟨h.le, fun p p1 p2 => by rw [← (lasts_of h1 h2 p).1]; exact h.all p p1 p2, by rw [← (lasts_of h1 h2 b).1]; exact h.stop⟩

/-- A segment is another one: where a position lies. -/
theorem at_set {L M : LogD} {j : Nat} {S' : SegD} (h8 : L.segs.length = 8) (hj : j < 8) (hm : M.map = L.map) (hs : M.segs = L.segs.set j S') (p : Int) : M.at p = if L.k p = j then S' else L.at p := by
  have hk : M.k p = L.k p := by unfold LogD.k; rw [hm]
  unfold LogD.at
  rw [hk, hs, List.getD_eq_getElem?_getD, List.getElem?_set]
  by_cases e : L.k p = j
  · rw [if_pos e.symm, if_pos e, if_pos (by omega)]
    rfl
  · rw [if_neg fun e' => e e'.symm, if_neg e, ← List.getD_eq_getElem?_getD]

theorem LogD.Inv.sync (h : L.Inv f N) {k : Nat} (hk : k < 8) : ∃ h', (L.syncS k h').Adv L.head h' ∧ (¬ (L.segs.getD k noSeg).D.lasts < (L.segs.getD k noSeg).D.lines.length → L.syncS k h' = L) ∧ (L.syncS k h').Inv f N ∧ h' ≤ L.next := by
  have h8 := h.fm.eight
  obtain ⟨S, hS⟩ : ∃ S, L.segs[k]? = some S := ⟨_, List.getElem?_eq_getElem (by omega)⟩
  have hg : L.segs.getD k noSeg = S := by rw [List.getD_eq_getElem?_getD, hS]; rfl
  obtain ⟨hin, hse, htr⟩ := h.segs S (List.mem_of_getElem? hS)
  have hin' := in_sync hin
  have hh0 := h.fm.head0
  have ht0 := h.fm.trim0
  have hn0 := h.fm.next0
  -- the log, synced, whatever its head
  obtain ⟨M, hM⟩ : ∃ M, L.syncS k L.head = M := ⟨_, rfl⟩
  have hMm : M.map = L.map := by rw [← hM]; rfl
  have hMs : M.segs = L.segs.set k (syncD S) := by rw [← hM]; unfold LogD.syncS; rw [hg]
  have hat := at_set h8 hk hMm hMs
  have hMk : ∀ p, M.k p = L.k p := fun p => by unfold LogD.k; rw [hMm]
  have hok : ∀ p, 0 ≤ p → (M.at p).ok := fun p hp => by
    rw [hat]
    split
    · exact hin'.ok
    · exact (h.segs _ (h.seg hp)).1.ok
  have hSk : ∀ p, L.k p = k → L.at p = S := fun p e => by unfold LogD.at; rw [e, hg]
  have hnl : ∀ p, L.next ≤ p → M.lasts p = false := fun p hp => by
    cases hl : M.lasts p with
    | false => rfl
    | true =>
      have hp0 : 0 ≤ p := by omega
      obtain ⟨x, hx, e, -⟩ := (lasts_at (hok p hp0)).1 hl
      rw [hat] at hx
      split at hx
      · have := (h.slots k S hS x hx).1
        omega
      · have := (h.slots _ _ (h.fm.at hp0) x hx).1
        omega
  have hll : ∀ p, 0 ≤ p → L.lasts p = true → M.lasts p = true := fun p hp hl => by
    obtain ⟨x, hx, e, hx'⟩ := (lasts_at (h.segs _ (h.seg hp)).1.ok).1 hl
    refine (lasts_at (hok p hp)).2 ⟨x, ?_, e, ?_⟩
    · rw [hat]
      split
      · rename_i ek
        rw [hSk p ek] at hx
        exact hx
      · exact hx
    · rw [hat]
      split
      · rename_i ek
        rw [hSk p ek] at hx
        exact hin.front.lines x hx
      · exact hx'
  obtain ⟨h', ha, hle⟩ := adv_is (L := M) (a := L.head) hn0 (hnl _ (Int.le_refl _))
  have e1 : L.syncS k h' = { M with head := h' } := by rw [← hM]; rfl
  have ha' : (L.syncS k h').Adv L.head h' := Adv.of (L := M) (by rw [e1]) (by rw [e1]) ha
  refine ⟨h', ha', fun hw => ?_, ?_, hle⟩
  · rw [hg] at hw
    have hsy : syncD S = S := by
      have := hin.front.lasts
      have e : S.D.lines.length = S.D.lasts := by omega
      unfold syncD
      rw [e]
    have hML : M = L := by
      rw [← hM]
      unfold LogD.syncS
      rw [hg, hsy, set_self hS]
    rw [hML] at ha
    have e2 := adv_one ha ⟨Int.le_refl _, fun p h1 h2 => by omega, h.adv.stop⟩
    rw [e1, hML, e2]
  · rw [e1]
    have hMf : ∀ {x : LogD → Prop}, x (L.syncS k L.head) → x M := fun {x} h => hM ▸ h
    have hseg : ∀ T ∈ M.segs, T.In L.room N ∧ T.sealed < (L.map.length : Int) ∧ T.trim = L.trim := fun T hT => by
      rw [hMs] at hT
      rcases List.mem_or_eq_of_mem_set hT with h1 | rfl
      · exact h.segs T h1
      · exact ⟨hin', hse, htr⟩
    subst hM
    refine ⟨⟨by rw [show ({ L.syncS k L.head with head := h' } : LogD).segs = (L.syncS k L.head).segs from rfl, hMs]; simp [h8], h.fm.ok, h.fm.mapS, h.fm.few, h.fm.trim0, by have := ha.le; show L.trim ≤ h'; omega, hle, h.fm.next1, h.fm.inS, h.fm.gone8, h.fm.ops, h.fm.run⟩, h.down, hseg, fun j T hT x hx => ?_, fun p h1 h2 => ?_, ?_, h.run, fun y hy => Int.le_trans (h.froms y hy) ha.le⟩
    · rw [show ({ L.syncS k L.head with head := h' } : LogD).segs = (L.syncS k L.head).segs from rfl, hMs] at hT
      rcases set_get hT with ⟨rfl, rfl⟩ | ⟨-, hT⟩
      · exact h.slots _ _ hS x hx
      · exact h.slots _ _ hT x hx
    · obtain ⟨x, hx, e⟩ := h.all p h1 h2
      refine ⟨x, ?_, e⟩
      show x ∈ ((L.syncS k L.head).at p).slots
      rw [hat]
      split
      · rename_i ek
        rw [hSk p ek] at hx
        exact hx
      · exact hx
    · refine ⟨by have := ha.le; show L.trim ≤ h'; omega, fun p h1 h2 => ?_, ha.stop⟩
      have h1 : L.trim ≤ p := h1
      show (L.syncS k L.head).lasts p = true
      rcases Int.lt_or_le p L.head with h3 | h3
      · exact hll p (by omega) (h.adv.all p h1 h3)
      · exact ha.all p h3 h2

end
end Go.Proofs.YtjbjjfndkpcciaaGreatDoor

/- Logs in order: fallen, and up again. Pure laws. Own work; no statement. -/
set_option linter.unusedSimpArgs false
set_option linter.unusedVariables false
namespace Go.Proofs.YtjbjjfndkpcciaaGreatDoor

section
variable {L : LogD} {f : Int → RecD} {N : Nat}

theorem crash_fm (h : L.Inv f N) (keep : List Int) : (L.crash keep).fm :=
  ⟨by unfold LogD.crash fellAll; simp [h.fm.eight], h.fm.ok, h.fm.mapS, h.fm.few, Int.le_refl _, Int.le_refl _, Int.le_refl _, (by decide : (0 : Int) ≤ 2147483648), fun x hx => (by cases hx), Nat.zero_le _, h.fm.ops, h.fm.run⟩

theorem knows_eq (h : L.Inv f N) (keep : List Int) : (L.crash keep).knows = ⟨L.room, L.ops, (L.crash keep).knows.segs, L.map, true, L.trim, L.gone, L.trim, 0⟩ := by
  show (⟨L.room, L.ops, _, (runO L.st0 (L.ops.take L.ops.length)).1, true, (runO L.st0 (L.ops.take L.ops.length)).2.1, (runO L.st0 (L.ops.take L.ops.length)).2.2, (runO L.st0 (L.ops.take L.ops.length)).2.1, 0⟩ : LogD) = _
  rw [List.take_length, h.run]
  rfl
theorem knows_segs (keep : List Int) (i : Nat) : (L.crash keep).knows.segs[i]? = (L.segs[i]?).map fun S => openS (crashD S.D (geti keep (i : Int))) := by
  show ((fellAll keep L.segs).map fun S => openS S.D)[i]? = _
  unfold fellAll
  rw [List.getElem?_map, List.getElem?_mapIdx]
  cases L.segs[i]? <;> rfl

theorem LogD.Inv.recover (h : L.Inv f N) (keep : List Int) (hr : 81 * ((N : Int) + 1) ≤ L.room) (hn : L.next ≤ 2147483647) :
    ∃ h', (∀ S ∈ (L.crash keep).knows.segs, S.ok) ∧ (L.crash keep).knows.Adv (L.crash keep).knows.head h' ∧ 0 ≤ (L.crash keep).knows.head ∧ L.head ≤ h' ∧ h' ≤ L.next ∧ (∀ S ∈ (L.crash keep).knows.segs, segCutE S h' = 0) ∧
      ∃ Rs, (L.crash keep).recS h' = ⟨L.room, L.ops, Rs, L.map, false, L.trim, L.gone, h', h'⟩ ∧ LogD.Inv ⟨L.room, L.ops, Rs, L.map, false, L.trim, L.gone, h', h'⟩ f (N + 1) ∧ (∀ S ∈ Rs, S.D.lasts = S.D.lines.length) ∧ ((∀ (k : Nat) S, L.segs[k]? = some S → wholeN S.D (geti keep (k : Int)) = S.D.lasts) → h' = L.head) := by
  have h8 := h.fm.eight
  have hh0 := h.fm.head0
  have ht0 := h.fm.trim0
  have hn0 := h.fm.next0
  have eK := knows_eq h keep
  have hKs := knows_segs (L := L) keep
  generalize hK : (L.crash keep).knows = K at *
  have hKm : K.map = L.map := by rw [eK]
  have hKh : K.head = L.trim := by rw [eK]
  have hKk : ∀ p, K.k p = L.k p := fun p => by unfold LogD.k; rw [hKm]
  have hKa : ∀ p, 0 ≤ p → K.at p = openS (crashD (L.at p).D (geti keep (L.k p : Int))) := fun p hp => by
    unfold LogD.at
    rw [hKk, List.getD_eq_getElem?_getD, hKs, h.fm.at hp, List.getD_eq_getElem?_getD, h.fm.at hp]
    rfl
  have hKin : ∀ T ∈ K.segs, T.In L.room N ∧ T.sealed < (L.map.length : Int) ∧ T.trim = L.trim ∧ T.D.lasts = T.D.lines.length := fun T hT => by
    obtain ⟨i, hi, rfl⟩ := List.mem_iff_getElem.1 hT
    have e := hKs i
    rw [List.getElem?_eq_getElem hi] at e
    obtain ⟨S, hS, e⟩ := Option.map_eq_some_iff.1 e.symm
    obtain ⟨q1, q2, q3⟩ := h.segs S (List.mem_of_getElem? hS)
    obtain ⟨r1, r2, r3, r4, r5, r6⟩ := in_open q1 (geti keep (i : Int))
    rw [← e]
    exact ⟨r1, by rw [r2]; exact q2, by rw [r3]; exact q3, by rw [r5, r6]⟩
  have hKmem : ∀ p, 0 ≤ p → ∀ x, x ∈ (K.at p).slots ↔ x ∈ (L.at p).slots ∧ x.line < wholeN (L.at p).D (geti keep (L.k p : Int)) := fun p hp x => by
    rw [hKa p hp]
    exact (in_open (h.segs _ (h.seg hp)).1 _).2.2.2.1 x
  have hKsg : ∀ p, 0 ≤ p → K.segs[L.k p]? = some (K.at p) := fun p hp => by rw [hKs, h.fm.at hp, hKa p hp]; rfl
  have hKok : ∀ p, 0 ≤ p → (K.at p).ok := fun p hp => (hKin _ (List.mem_of_getElem? (hKsg p hp))).1.ok
  have hKl : ∀ p, 0 ≤ p → (K.lasts p = true ↔ ∃ x ∈ (L.at p).slots, x.pos = p ∧ x.line < wholeN (L.at p).D (geti keep (L.k p : Int))) := fun p hp => by
    rw [lasts_at (hKok p hp)]
    have e : (K.at p).D.lasts = wholeN (L.at p).D (geti keep (L.k p : Int)) := by rw [hKa p hp]; exact (in_open (h.segs _ (h.seg hp)).1 _).2.2.2.2.1
    constructor
    · rintro ⟨x, hx, e1, -⟩
      exact ⟨x, ((hKmem p hp x).1 hx).1, e1, ((hKmem p hp x).1 hx).2⟩
    · rintro ⟨x, hx, e1, hl⟩
      exact ⟨x, (hKmem p hp x).2 ⟨hx, hl⟩, e1, by rw [e]; exact hl⟩
  have hnl : K.lasts L.next = false := by
    cases hl : K.lasts L.next with
    | false => rfl
    | true =>
      obtain ⟨x, hx, e, -⟩ := (hKl _ (by omega)).1 hl
      have := (h.slots _ _ (h.fm.at (by omega)) x hx).1
      omega
  obtain ⟨h', ha, hle⟩ := adv_is (L := K) (a := L.trim) (by omega) hnl
  have hst := ha.stop
  have hge : L.head ≤ h' := by
    rcases Int.lt_or_le h' L.head with h1 | h1
    · have h2 := h.adv.all h' ha.le h1
      obtain ⟨x, hx, e, hl⟩ := (lasts_at (h.segs _ (h.seg (by have := ha.le; omega))).1.ok).1 h2
      have := (hKl h' (by have := ha.le; omega)).2 ⟨x, hx, e, Nat.lt_of_lt_of_le hl (wholeN_in (h.segs _ (h.seg (by have := ha.le; omega))).1.front.lasts _).1⟩
      rw [this] at hst
      cases hst
    · exact h1
  have hl0 := ha.le
  -- what becomes of each segment
  obtain ⟨g, hg⟩ : ∃ g : SegD → SegD, (if reachS K.segs h' = true then K.segs.map (fun S => segCutS S h') else K.segs) = K.segs.map g ∧ ∀ T ∈ K.segs, (g T).In L.room (N + 1) ∧ (g T).sealed = T.sealed ∧ (g T).trim = T.trim ∧ (∀ x, x ∈ (g T).slots ↔ x ∈ T.slots ∧ x.pos < h') ∧ (g T).D.lasts = (g T).D.lines.length := by
    cases hre : reachS K.segs h' with
    | true => exact ⟨fun S => segCutS S h', by simp, fun T hT => (in_cut (hKin T hT).1 hr (by omega) (by omega)).2⟩
    | false =>
      refine ⟨id, by simp, fun T hT => ⟨(hKin T hT).1.more (by omega), rfl, rfl, fun x => ⟨fun hx => ⟨hx, ?_⟩, fun hx => hx.1⟩, (hKin T hT).2.2.2⟩⟩
      refine Classical.byContradiction fun hn => ?_
      have : reachS K.segs h' = true := by
        unfold reachS
        exact List.any_eq_true.2 ⟨T, hT, List.any_eq_true.2 ⟨x, hx, by simp; omega⟩⟩
      rw [this] at hre
      cases hre
  obtain ⟨hg1, hg2⟩ := hg
  refine ⟨h', fun S hS => (hKin S hS).1.ok, by rw [hKh]; exact ha, by rw [hKh]; exact ht0, hge, hle, fun S hS => (in_cut (hKin S hS).1 hr (by omega) (by omega)).1, K.segs.map g, ?_, ?_, fun S hS => ?_, fun hw => ?_⟩
  · unfold LogD.recS
    rw [hK, hg1, eK]
  · have hRa : ∀ p, 0 ≤ p → LogD.at ⟨L.room, L.ops, K.segs.map g, L.map, false, L.trim, L.gone, h', h'⟩ p = g (K.at p) := fun p hp => by
      show (K.segs.map g).getD (L.k p) noSeg = _
      rw [List.getD_eq_getElem?_getD, List.getElem?_map, hKsg p hp]
      rfl
    have hmk : ∀ p, 0 ≤ p → K.at p ∈ K.segs := fun p hp => List.mem_of_getElem? (hKsg p hp)
    have hpr : ∀ p, L.trim ≤ p → p < h' → ∃ x ∈ (K.at p).slots, x.pos = p := fun p h1 h2 => by
      obtain ⟨x, hx, e, hl⟩ := (hKl p (by omega)).1 (ha.all p h1 h2)
      exact ⟨x, (hKmem p (by omega) x).2 ⟨hx, hl⟩, e⟩
    refine ⟨⟨?_, h.fm.ok, h.fm.mapS, h.fm.few, ht0, hl0, Int.le_refl _, by dsimp only; omega, h.fm.inS, h.fm.gone8, h.fm.ops, h.fm.run⟩, rfl, fun S hS => ?_, fun k S hS x hx => ?_, fun p h1 h2 => ?_, ⟨hl0, fun p h1 h2 => ?_, ?_⟩, h.run, fun y hy => Int.le_trans (h.froms y hy) hge⟩
    · have : K.segs.length = 8 := by
        rw [← hK]
        show ((fellAll keep L.segs).map fun S => openS S.D).length = 8
        unfold fellAll
        simp [h8]
      simpa using this
    · obtain ⟨T, hT, rfl⟩ := List.mem_map.1 hS
      obtain ⟨q1, q2, q3, -, -⟩ := hg2 T hT
      obtain ⟨-, r2, r3, -⟩ := hKin T hT
      exact ⟨q1, by rw [q2]; exact r2, by rw [q3]; exact r3⟩
    · have hS' : (K.segs.map g)[k]? = some S := hS
      rw [List.getElem?_map] at hS'
      obtain ⟨T, hT, rfl⟩ := Option.map_eq_some_iff.1 hS'
      have hxT := ((hg2 T (List.mem_of_getElem? hT)).2.2.2.1 x).1 hx
      rw [hKs] at hT
      obtain ⟨S0, hS0, e⟩ := Option.map_eq_some_iff.1 hT
      have hx0 : x ∈ S0.slots := by
        have := hxT.1
        rw [← e] at this
        exact ((in_open (h.segs S0 (List.mem_of_getElem? hS0)).1 _).2.2.2.1 x).1 this |>.1
      obtain ⟨-, q2, q3⟩ := h.slots k S0 hS0 x hx0
      exact ⟨hxT.2, q2, q3⟩
    · dsimp only at h1 h2
      obtain ⟨x, hx, e⟩ := hpr p h1 h2
      rw [hRa p (by omega)]
      exact ⟨x, ((hg2 _ (hmk p (by omega))).2.2.2.1 x).2 ⟨hx, by omega⟩, e⟩
    · dsimp only at h1 h2
      obtain ⟨x, hx, e⟩ := hpr p h1 h2
      have hq := hg2 _ (hmk p (by omega))
      have hxg := (hq.2.2.2.1 x).2 ⟨hx, by omega⟩
      refine (lasts_at (by rw [hRa p (by omega)]; exact hq.1.ok)).2 ⟨x, by rw [hRa p (by omega)]; exact hxg, e, ?_⟩
      rw [hRa p (by omega), hq.2.2.2.2]
      exact hq.1.front.lines x hxg
    · dsimp only
      cases hl : LogD.lasts ⟨L.room, L.ops, K.segs.map g, L.map, false, L.trim, L.gone, h', h'⟩ h' with
      | false => rfl
      | true =>
        have hq := hg2 _ (hmk h' (by omega))
        obtain ⟨x, hx, e, -⟩ := (lasts_at (by rw [hRa h' (by omega)]; exact hq.1.ok)).1 hl
        rw [hRa h' (by omega)] at hx
        have := ((hq.2.2.2.1 x).1 hx).2
        omega
  · obtain ⟨T, hT, rfl⟩ := List.mem_map.1 hS
    exact (hg2 T hT).2.2.2.2
  · have hadv : K.Adv L.trim L.head := ⟨hh0, fun p h1 h2 => ?_, ?_⟩
    · exact adv_one ha hadv
    · have hl := h.adv.all p h1 h2
      obtain ⟨x, hx, e, hl⟩ := (lasts_at (h.segs _ (h.seg (by omega))).1.ok).1 hl
      exact (hKl p (by omega)).2 ⟨x, hx, e, by rw [hw _ _ (h.fm.at (by omega))]; exact hl⟩
    · cases hl : K.lasts L.head with
      | false => rfl
      | true =>
        obtain ⟨x, hx, e, hl⟩ := (hKl _ (by omega)).1 hl
        rw [hw _ _ (h.fm.at (by omega))] at hl
        have := h.adv.stop
        rw [(lasts_at (h.segs _ (h.seg (by omega))).1.ok).2 ⟨x, hx, e, hl⟩] at this
        cases this

end
end Go.Proofs.YtjbjjfndkpcciaaGreatDoor

/- Logs in order: new; what is there; trimmed; resized. Pure laws. Own work; no statement. -/
set_option linter.unusedSimpArgs false
set_option linter.unusedVariables false
namespace Go.Proofs.YtjbjjfndkpcciaaGreatDoor

section
variable {L : LogD} {f : Int → RecD} {N : Nat}

theorem inv_new {k room : Int} (f : Int → RecD) (h1 : 1 ≤ k) (h2 : k ≤ 8) : (newL k room).Inv f 0 := by
  have hok : okMap [(0, k)] = true := by
    unfold okMap
    simp [okFrom]
    omega
  have hs : ∀ p, ((newL k room).at p).slots = [] := fun p => by
    unfold LogD.at newL
    rw [List.getD_eq_getElem?_getD, List.getElem?_replicate]
    split <;> rfl
  have hl : ∀ p, (newL k room).lasts p = false := fun p => by
    unfold LogD.lasts lastsS
    rw [hs]
    simp
  refine ⟨⟨by simp [newL], hok, fun x hx => ?_, by simp [newL], Int.le_refl _, Int.le_refl _, Int.le_refl _, (by decide : (0 : Int) ≤ 2147483648), fun x hx => (by cases hx), Nat.zero_le _, trivial, rfl⟩, rfl, fun S hS => ?_, fun j S hS x hx => ?_, fun p h3 h4 => ?_, ⟨Int.le_refl _, fun p h3 h4 => ?_, hl _⟩, rfl, fun y hy => ?_⟩
  · have : x = (0, k) := by simpa [newL] using hx
    rw [this]
    exact ⟨⟨Int.le_refl _, by dsimp only; omega⟩, by dsimp only; omega, by dsimp only; omega⟩
  · have : S = emptyS ⟨room, [], 0⟩ := by
      unfold newL at hS
      exact List.eq_of_mem_replicate hS
    rw [this]
    exact ⟨in_new 0, by simp [newL, emptyS], rfl⟩
  · have : S = emptyS ⟨room, [], 0⟩ := by
      unfold newL at hS
      exact List.eq_of_mem_replicate (List.mem_of_getElem? hS)
    rw [this] at hx
    cases hx
  · have a : (0 : Int) ≤ p := h3
    have b : p < (0 : Int) := h4
    omega
  · have a : (0 : Int) ≤ p := h3
    have b : p < (0 : Int) := h4
    omega
  · have : y = (0, k) := by simpa [newL] using hy
    rw [this]
    exact Int.le_refl _

/-- What is told of a position that is there. -/
theorem LogD.Inv.get (h : L.Inv f N) {p : Int} (h1 : L.trim ≤ p) (h2 : p < L.next) : L.get p = (f p, 0) := by
  have h0 := h.fm.trim0
  obtain ⟨x, hx, e⟩ := h.all p h1 h2
  have h3 := (h.slots _ _ (h.fm.at (by omega)) x hx).2.2
  unfold LogD.get
  rw [if_neg (by rw [h.down]; decide), if_neg (by omega), if_neg (by omega), if_neg (by omega)]
  have := getS_mem (h.segs _ (h.seg (by omega))).1.ok hx
  rw [e] at this
  rw [this, h3, e]
theorem LogD.Inv.get_trim (h : L.Inv f N) {p : Int} (h0 : 0 ≤ p) (h1 : p < L.trim) : L.get p = (zeroR, 8) := by
  unfold LogD.get
  rw [if_neg (by rw [h.down]; decide), if_neg (by omega), if_pos h1]
theorem LogD.Inv.get_next (h : L.Inv f N) {p : Int} (h1 : L.next ≤ p) : L.get p = (zeroR, 9) := by
  have h0 := h.fm.trim0
  have := h.fm.head0
  have := h.fm.next0
  unfold LogD.get
  rw [if_neg (by rw [h.down]; decide), if_neg (by omega), if_neg (by omega), if_pos h1]
theorem LogD.Inv.has (h : L.Inv f N) (hd : ∀ p, (f p).dep.length ≤ 17592186044416) : L.Has L.trim (L.next - L.trim).toNat := by
  have h0 := h.fm.trim0
  have h1 := h.fm.head0
  have h2 := h.fm.next0
  have h3 := h.fm.next1
  refine ⟨fun i hi => ?_, by omega, by omega, by omega⟩
  have e := h.get (p := L.trim + (i : Int)) (by omega) (by omega)
  rw [e]
  exact ⟨by omega, rfl, hd _⟩
theorem LogD.Inv.recs (h : L.Inv f N) {n : Nat} (hn : L.trim + n ≤ L.next) : L.recs L.trim n = (List.range n).map fun (i : Nat) => (L.trim + (i : Int), f (L.trim + (i : Int))) := by
  unfold LogD.recs
  refine List.map_congr_left fun i hi => ?_
  rw [h.get (by omega) (by have := List.mem_range.1 hi; omega)]
/-- All lasts: the head is the next one. -/
theorem LogD.Inv.head_all (h : L.Inv f N) (hs : ∀ S ∈ L.segs, S.D.lasts = S.D.lines.length) : L.head = L.next := by
  have h0 := h.fm.trim0
  have h1 := h.fm.head0
  have h2 := h.fm.next0
  rcases Int.lt_or_eq_of_le h2 with h3 | h3
  · obtain ⟨x, hx, e⟩ := h.all L.head h1 h3
    have hm := h.seg (p := L.head) (by omega)
    have := h.adv.stop
    rw [(lasts_at (h.segs _ hm).1.ok).2 ⟨x, hx, e, by rw [hs _ hm]; exact (h.segs _ hm).1.front.lines x hx⟩] at this
    cases this
  · exact h3

theorem at_map {L M : LogD} {g : SegD → SegD} (hf : L.fm) (hm : M.map = L.map) (hs : M.segs = L.segs.map g) {p : Int} (hp : 0 ≤ p) : M.at p = g (L.at p) := by
  have hk : M.k p = L.k p := by unfold LogD.k; rw [hm]
  have := hf.at hp
  unfold LogD.at at *
  rw [hk, hs, List.getD_eq_getElem?_getD, List.getElem?_map, this]
  rfl

theorem LogD.Inv.trimmed (h : L.Inv f N) {pos : Int} (h1 : L.trim ≤ pos) (h2 : pos ≤ L.head) (hr : 81 * ((N : Int) + 1) ≤ L.room) (hn : L.next ≤ 2147483647) (hv : InS (L.vecTo pos)) (h8 : (L.vecTo pos).length ≤ 8) (hw : (L.vecTo pos).take (writtenL (L.vecTo pos)) = L.vecTo pos) :
    (∀ S ∈ L.segs, (segTrimS S pos).ok) ∧ ∃ h', (L.trimS pos h').Adv L.head h' ∧ h' ≤ L.next ∧ (L.trimS pos h').Inv f (N + 1) := by
  have hh0 := h.fm.head0
  have ht0 := h.fm.trim0
  have hn0 := h.fm.next0
  have hin : ∀ S ∈ L.segs, _ := fun S hS => in_trim (h.segs S hS).1 hr (p := pos) (by rw [(h.segs S hS).2.2]; exact h1) (by omega)
  have hat : ∀ h' p, 0 ≤ p → (L.trimS pos h').at p = segTrimS (L.at p) pos := fun h' p hp => at_map (L := L) (M := L.trimS pos h') (g := fun S => segTrimS S pos) h.fm rfl rfl hp
  have hok : ∀ h' p, 0 ≤ p → ((L.trimS pos h').at p).ok := fun h' p hp => by rw [hat h' p hp]; exact (hin _ (h.seg hp)).1.ok
  have hll : ∀ h' p, pos ≤ p → L.lasts p = true → (L.trimS pos h').lasts p = true := fun h' p hp hl => by
    have hp0 : 0 ≤ p := by omega
    obtain ⟨x, hx, e, hx'⟩ := (lasts_at (h.segs _ (h.seg hp0)).1.ok).1 hl
    obtain ⟨q1, q2, q3, q4, q5⟩ := hin _ (h.seg hp0)
    have hxg := (q4 x).2 ⟨hx, by omega⟩
    refine (lasts_at (hok h' p hp0)).2 ⟨x, by rw [hat h' p hp0]; exact hxg, e, ?_⟩
    rw [hat h' p hp0]
    rcases q5 with q5 | q5
    · rw [q5]
      exact q1.front.lines x hxg
    · rw [q5]
      exact hx'
  have hnl : (L.trimS pos L.head).lasts L.next = false := by
    cases hl : (L.trimS pos L.head).lasts L.next with
    | false => rfl
    | true =>
      obtain ⟨x, hx, e, -⟩ := (lasts_at (hok _ _ (by omega))).1 hl
      rw [hat _ _ (by omega)] at hx
      have := (h.slots _ _ (h.fm.at (by omega)) x ((hin _ (h.seg (by omega))).2.2.2.1 x |>.1 hx).1).1
      omega
  obtain ⟨h', ha, hle⟩ := adv_is (L := L.trimS pos L.head) (a := L.head) hn0 hnl
  have ha' : (L.trimS pos h').Adv L.head h' := Adv.of (L := L.trimS pos L.head) (M := L.trimS pos h') rfl rfl ha
  have hal := ha'.le
  refine ⟨fun S hS => (hin S hS).1.ok, h', ha', hle, ⟨by unfold LogD.trimS; simp [h.fm.eight], h.fm.ok, h.fm.mapS, ?_, by show 0 ≤ pos; omega, by show pos ≤ h'; omega, hle, h.fm.next1, hv, h8, ?_, ?_⟩, h.down, fun S hS => ?_, fun k S hS x hx => ?_, fun p p1 p2 => ?_, ⟨by show pos ≤ h'; omega, fun p p1 p2 => ?_, ha'.stop⟩, ?_, fun y hy => Int.le_trans (h.froms y hy) hal⟩
  · have := h.fm.few
    show L.map.length ≤ (L.ops ++ [_]).length + 1
    simp
    omega
  · show OkOps L.st0 (L.ops ++ [.trim pos (L.vecTo pos)])
    refine okOps_snoc _ _ _ h.fm.ops ?_
    rw [h.run]
    exact ⟨h1, by omega, hv, h8⟩
  · show (runO L.st0 (L.ops ++ [.trim pos (L.vecTo pos)])).1 = L.map
    rw [runO_snoc, h.run]
    rfl
  · obtain ⟨T, hT, rfl⟩ := List.mem_map.1 (show S ∈ L.segs.map fun S => segTrimS S pos from hS)
    obtain ⟨q1, q2, q3, -, -⟩ := hin T hT
    exact ⟨q1, by rw [q2]; exact (h.segs T hT).2.1, q3⟩
  · have hS' : (L.segs.map fun S => segTrimS S pos)[k]? = some S := hS
    rw [List.getElem?_map] at hS'
    obtain ⟨T, hT, rfl⟩ := Option.map_eq_some_iff.1 hS'
    have hxT := ((hin T (List.mem_of_getElem? hT)).2.2.2.1 x).1 hx
    exact h.slots k T hT x hxT.1
  · have p1 : pos ≤ p := p1
    obtain ⟨x, hx, e⟩ := h.all p (by omega) p2
    rw [hat h' p (by omega)]
    exact ⟨x, ((hin _ (h.seg (by omega))).2.2.2.1 x).2 ⟨hx, by omega⟩, e⟩
  · have p1 : pos ≤ p := p1
    rcases Int.lt_or_le p L.head with h3 | h3
    · exact hll h' p p1 (h.adv.all p (by omega) h3)
    · exact ha'.all p h3 p2
  · show runO L.st0 (L.ops ++ [.trim pos (L.vecTo pos)]) = (L.map, pos, L.vecTo pos)
    rw [runO_snoc, h.run]
    show (L.map, pos, (L.vecTo pos).take (writtenL (L.vecTo pos))) = _
    rw [hw]

theorem LogD.Inv.resized (h : L.Inv f N) {n : Int} (hh : L.head = L.next) (hn1 : 1 ≤ n) (hn8 : n ≤ 8) (hr : 81 * ((N : Int) + 1) ≤ L.room) (hn : L.next ≤ 2147483647) (hm : (L.map.length : Int) ≤ 2147483646) :
    okMap (L.map ++ [(L.next, n)]) = true ∧ MapS (L.map ++ [(L.next, n)]) ∧ (∀ S ∈ L.segs, ¬ (L.map.length : Int) ≤ S.sealed → segSealE S (L.map.length : Int) = 0) ∧ (L.resizeS n).Inv f (N + 1) ∧ (∀ S ∈ (L.resizeS n).segs, S.D.lasts = S.D.lines.length) := by
  have hh0 := h.fm.head0
  have ht0 := h.fm.trim0
  have hn0 := h.fm.next0
  have hok := okMap_snoc (f := L.next) (n := n) h.fm.ok (fun x hx => by have := h.froms x hx; omega) hn1 hn8
  have hms : MapS (L.map ++ [(L.next, n)]) := fun x hx => by
    rcases List.mem_append.1 hx with h1 | h1
    · exact h.fm.mapS x h1
    · rw [List.mem_singleton.1 h1]
      dsimp only
      omega
  have hpos := okMap_pos h.fm.ok
  have hin : ∀ S ∈ L.segs, _ := fun S hS => in_seal (h.segs S hS).1 hr (k := (L.map.length : Int)) (h.segs S hS).2.1 (by omega)
  have hk : ∀ p, 0 ≤ p → p < L.next → (L.resizeS n).k p = L.k p := fun p p0 p1 => by
    unfold LogD.k
    show (findM (L.map ++ [(L.next, n)]) p).2.1.toNat = _
    rw [find_snoc h.fm.ok hok p0 p1]
  have hat : ∀ p, 0 ≤ p → p < L.next → (L.resizeS n).at p = sealTo (L.map.length : Int) (L.at p) := fun p p0 p1 => by
    have := h.fm.at p0
    unfold LogD.at at *
    rw [hk p p0 p1]
    show (L.segs.map (sealTo (L.map.length : Int))).getD (L.k p) noSeg = _
    rw [List.getD_eq_getElem?_getD, List.getElem?_map, this]
    rfl
  have hR : (L.resizeS n).map = L.map ++ [(L.next, n)] := rfl
  have hfm : (L.resizeS n).fm := by
    refine ⟨by unfold LogD.resizeS; simp [h.fm.eight], hok, hms, ?_, ht0, hh0, hn0, h.fm.next1, h.fm.inS, h.fm.gone8, ?_, ?_⟩
    · have := h.fm.few
      show (L.map ++ [_]).length ≤ (L.ops ++ [_]).length + 1
      simp
      omega
    · have hst : (L.resizeS n).st0 = L.st0 := by
        unfold LogD.st0 LogD.resizeS
        dsimp only
        rw [List.take_append_of_le_length (by omega)]
      rw [hst]
      refine okOps_snoc _ _ _ h.fm.ops ?_
      exact ⟨hok, hms⟩
    · have hst : (L.resizeS n).st0 = L.st0 := by
        unfold LogD.st0 LogD.resizeS
        dsimp only
        rw [List.take_append_of_le_length (by omega)]
      rw [hst]
      show (runO L.st0 (L.ops ++ [_])).1 = _
      rw [runO_snoc]
      rfl
  have hseg : ∀ S ∈ (L.resizeS n).segs, S.In L.room (N + 1) ∧ S.sealed < ((L.resizeS n).map.length : Int) ∧ S.trim = L.trim := fun S hS => by
    obtain ⟨T, hT, rfl⟩ := List.mem_map.1 (show S ∈ L.segs.map (sealTo (L.map.length : Int)) from hS)
    obtain ⟨-, q1, q2, q3, -⟩ := hin T hT
    exact ⟨q1, by rw [q2, hR]; simp; omega, by rw [q3]; exact (h.segs T hT).2.2⟩
  have hsl : ∀ (j : Nat) (S : SegD), (L.resizeS n).segs[j]? = some S → ∃ T, L.segs[j]? = some T ∧ S.slots = T.slots := fun j S hS => by
    have hS' : (L.segs.map (sealTo (L.map.length : Int)))[j]? = some S := hS
    rw [List.getElem?_map] at hS'
    obtain ⟨T, hT, rfl⟩ := Option.map_eq_some_iff.1 hS'
    exact ⟨T, hT, (hin T (List.mem_of_getElem? hT)).2.2.2.2.1⟩
  have hpn : ∀ (j : Nat) (S : SegD), (L.resizeS n).segs[j]? = some S → ∀ x ∈ S.slots, x.pos < L.next := fun j S hS x hx => by
    obtain ⟨T, hT, e⟩ := hsl j S hS
    rw [e] at hx
    exact (h.slots j T hT x hx).1
  refine ⟨hok, hms, fun S hS _ => (hin S hS).1, ⟨hfm, h.down, hseg, fun k S hS x hx => ?_, fun p p1 p2 => ?_, ⟨hh0, fun p p1 p2 => ?_, ?_⟩, ?_, fun y hy => ?_⟩, fun S hS => ?_⟩
  · obtain ⟨T, hT, e⟩ := hsl k S hS
    rw [e] at hx
    obtain ⟨q1, q2, q3⟩ := h.slots k T hT x hx
    have hx0 := ((h.segs T (List.mem_of_getElem? hT)).1.ok.each x hx).1
    exact ⟨q1, by rw [hk _ hx0 q1]; exact q2, q3⟩
  · have p1 : L.trim ≤ p := p1
    have p2 : p < L.next := p2
    obtain ⟨x, hx, e⟩ := h.all p p1 p2
    rw [hat p (by omega) p2]
    exact ⟨x, by rw [(hin _ (h.seg (by omega))).2.2.2.2.1]; exact hx, e⟩
  · have p1 : L.trim ≤ p := p1
    have p2 : p < L.head := p2
    obtain ⟨x, hx, e⟩ := h.all p p1 (by omega)
    have hq := hin _ (h.seg (p := p) (by omega))
    have hxg : x ∈ (sealTo (L.map.length : Int) (L.at p)).slots := by rw [hq.2.2.2.2.1]; exact hx
    refine (lasts_at (by rw [hat p (by omega) (by omega)]; exact hq.2.1.ok)).2 ⟨x, by rw [hat p (by omega) (by omega)]; exact hxg, e, ?_⟩
    rw [hat p (by omega) (by omega), hq.2.2.2.2.2.1]
    exact hq.2.1.front.lines x hxg
  · show (L.resizeS n).lasts L.head = false
    have h0 : 0 ≤ L.head := by omega
    cases hl : (L.resizeS n).lasts L.head with
    | false => rfl
    | true =>
      obtain ⟨x, hx, e, -⟩ := (lasts_at (hseg _ (List.mem_of_getElem? (hfm.at h0))).1.ok).1 hl
      have := hpn _ _ (hfm.at h0) x hx
      omega
  · show runO (L.resizeS n).st0 (L.ops ++ [.map (L.map ++ [(L.next, n)])]) = (L.map ++ [(L.next, n)], L.trim, L.gone)
    have hst : (L.resizeS n).st0 = L.st0 := by
      unfold LogD.st0 LogD.resizeS
      dsimp only
      rw [List.take_append_of_le_length (by omega)]
    rw [hst, runO_snoc, h.run]
    rfl
  · rcases List.mem_append.1 (show y ∈ L.map ++ [(L.next, n)] from hy) with h1 | h1
    · exact h.froms y h1
    · rw [List.mem_singleton.1 h1]
      show L.next ≤ L.head
      omega
  · obtain ⟨T, hT, rfl⟩ := List.mem_map.1 (show S ∈ L.segs.map (sealTo (L.map.length : Int)) from hS)
    exact (hin T hT).2.2.2.2.2.1

end
end Go.Proofs.YtjbjjfndkpcciaaGreatDoor

/- What the laws ask of a log: each call, from where a law begins. Own work; no statement. -/
set_option linter.unusedSimpArgs false
set_option linter.unusedVariables false
namespace Go.Proofs.YtjbjjfndkpcciaaGreatDoor
open Go.RowKit Go.Shelf Go.Sort

/-- A record of the laws, as a value. -/
abbrev rv (site seq : Int) : Value := .agg #[.int .i64 site, .int .i64 seq, .slice none 0 0, .string ⟨#[107]⟩, .string ⟨#[]⟩]
theorem r6_calls (site seq : Int) (w : World) : Calls Tryz.prog 18 #[.int .i64 site, .int .i64 seq] w fun e w' => e = .returned (rv site seq) ∧ Go.RowKit.Below w.heap.size w w' := by
  go_enter Tryz.func18, Tryz.ntmps18
  go_wp2
  exact bodyPost_ret (v := .agg #[.int .i64 site, .int .i64 seq, .slice none 0 0, .string ⟨#[107]⟩, .string ⟨#[]⟩]) (by simp [results, Tryz.f18, go_sem]) rfl ⟨rfl, (Below.refl _ w).alloc (Nat.le_refl _) _⟩

theorem law_key {site seq : Int} : (lawR site seq).key.size ≤ 1099511627776 := (by decide : (1 : Nat) ≤ 1099511627776)
theorem law_val {site seq : Int} : (lawR site seq).val.size ≤ 1099511627776 := (by decide : (0 : Nat) ≤ 1099511627776)
theorem lawR_short {pos site seq : Int} (h0 : 0 ≤ pos) (h1 : pos ≤ 2147483647) (h2 : 0 ≤ site) (h3 : site < 8) (h4 : 1 ≤ seq) (h5 : seq ≤ 1048576) : (textE ⟨112, pos, lawR site seq⟩).size ≤ 80 := by
  have l1 := Lib.itoa_length_le pos (by omega) (by omega)
  have z1 : (⟨(Lib.itoa pos).toArray⟩ : ByteArray).size ≤ 21 := by simpa [ByteArray.size] using l1
  have hr := textR_size (r := lawR site seq) (by simp [lawR]; omega) (by simp [lawR]; omega) (by simp [lawR]; omega) (by simp [lawR]; omega) (fun x hx => by simp [lawR] at hx)
  have e1 : (lawR site seq).dep.length = 0 := rfl
  have e2 : (lawR site seq).key.size = 1 := rfl
  have e3 : (lawR site seq).val.size = 0 := rfl
  unfold textE
  dsimp only
  rw [if_pos rfl]
  simp only [ByteArray.size_append]
  have z2 : (⟨#[112]⟩ : ByteArray).size = 1 := rfl
  have z3 : (⟨#[32]⟩ : ByteArray).size = 1 := rfl
  omega

/-- At block p there lies a log; of what lay there when the law began nothing has turned. -/
def At (w0 w : World) (p : Nat) (L : LogD) : Prop := ∃ m : LogM, m.p = p ∧ IsLog w w0.heap.size m L ∧ Go.RowKit.Below w0.heap.size w0 w
theorem At.below {w0 w : World} {p : Nat} {L : LogD} (h : At w0 w p L) : Go.RowKit.Below w0.heap.size w0 w := let ⟨_, _, _, h⟩ := h; h
theorem At.keep {w0 w w' : World} {p : Nat} {L : LogD} (h : At w0 w p L) (hb : Go.RowKit.Below w.heap.size w w') : At w0 w' p L := by
  obtain ⟨m, h1, h2, h3⟩ := h
  exact ⟨m, h1, h2.keep hb, h3.trans (hb.mono h3.size)⟩
theorem At.goes {w0 w w' : World} {m : LogM} {L L' : LogD} (h : IsLog w w0.heap.size m L) (hb : Go.RowKit.Below w0.heap.size w0 w) (g : LogGoes w0.heap.size m L' w w') : At w0 w' m.p L' := by
  obtain ⟨m', h1, h2, h3, h4⟩ := g
  exact ⟨m', h1, h2, hb.trans (h.below hb.size h3)⟩
theorem At.turn {w0 w w' : World} {m : LogM} {L L' : LogD} (h : IsLog w w0.heap.size m L) (hb : Go.RowKit.Below w0.heap.size w0 w) (h2 : IsLog w' w0.heap.size m L') (h3 : Touch m.on w w') : At w0 w' m.p L' := ⟨m, rfl, h2, hb.trans (h.below hb.size h3)⟩
/-- Rows of numbers have not turned. -/
def Kept (w w' : World) : Prop := ∀ (k : Nat) (c : Array Value), w.heap[k]? = some (.cells c 3 (0, 0)) → w'.heap[k]? = w.heap[k]?
theorem Kept.row {w w' : World} (h : Kept w w') {B s : Nat} {v : Value} {n : Nat} {xs : List Value} (hr : w.ownsRow B 3 s v n xs) : w'.ownsRow B 3 s v n xs :=
  ownsRow_of_heap hr fun k hk => by
    rcases hr.2 with ⟨rfl, _⟩ | ⟨g, cap, cur, rfl, _, hg, _⟩
    · cases hk
    · obtain rfl : g = k := by simpa [Value.ownBlock] using hk
      exact h _ _ hg
theorem LogGoes.kept {w w' : World} {B : Nat} {m : LogM} {L L' : LogD} (h : IsLog w B m L) (g : LogGoes B m L' w w') : Kept w w' := by
  obtain ⟨m', -, -, h3, -⟩ := g
  exact fun k c hk => h3.block k (ltAt hk) fun hm => (h.firm k hm _ _ _ hk).2.1 rfl
theorem At.pow {w0 w : World} {p : Nat} {L : LogD} (h : At w0 w p L) (hp : Pow w0) : Pow w := hp.below h.below
theorem At.powF {w0 w : World} {p : Nat} {L : LogD} (h : At w0 w p L) (hp : Pow w0) : PowF w0.heap.size w := hp.from h.below

section
variable {w0 w : World} {p : Nat} {L : LogD} {f : Int → RecD} {N : Nat}

theorem new_at (w0 w : World) (k room : Int) (hb : Go.RowKit.Below w0.heap.size w0 w) (h1 : 1 ≤ k) (h2 : k ≤ 8) (h3 : 1 ≤ room) (h4 : room ≤ 1048576) :
    Calls Tryz.prog 11 #[.int .i64 k, .int .i64 room] w fun e w' => ∃ p, e = .returned (.tuple #[.pointer (some ⟨p, 0, none⟩), .int .i64 0]) ∧ At w0 w' p (newL k room) :=
  (logNew_calls k room w h1 h2 h3 h4).mono fun e w' ⟨m, he, hI, hB⟩ => ⟨m.p, he, m, rfl, ⟨Nat.le_trans hb.size hI.low, hI.own.lower hb.size, hI.n8, hI.segs.lower hb.size, hI.off, hI.val⟩, hb.trans (hB.mono hb.size)⟩
theorem head_at (h : At w0 w p L) : Calls Tryz.prog 20 #[.pointer (some ⟨p, 0, none⟩)] w fun e w' => e = .returned (.int .i64 L.head) ∧ w' = w := by
  obtain ⟨m, rfl, h2, h3⟩ := h
  exact logHead_calls _ m L w h2
theorem next_at (h : At w0 w p L) : Calls Tryz.prog 22 #[.pointer (some ⟨p, 0, none⟩)] w fun e w' => e = .returned (.int .i64 L.next) ∧ w' = w := by
  obtain ⟨m, rfl, h2, h3⟩ := h
  exact logNext_calls _ m L w h2
theorem down_at (h : At w0 w p L) : Calls Tryz.prog 36 #[.pointer (some ⟨p, 0, none⟩)] w fun e w' => e = .returned (.bool L.down) ∧ w' = w := by
  obtain ⟨m, rfl, h2, h3⟩ := h
  exact logDown_calls _ m L w h2
theorem epoch_at (h : At w0 w p L) : Calls Tryz.prog 29 #[.pointer (some ⟨p, 0, none⟩)] w fun e w' => e = .returned (.int .i64 (L.map.length : Int)) ∧ w' = w := by
  obtain ⟨m, rfl, h2, h3⟩ := h
  exact logEpoch_calls _ m L w h2
theorem stripes_at (h : At w0 w p L) (hi : L.Inv f N) : Calls Tryz.prog 28 #[.pointer (some ⟨p, 0, none⟩)] w fun e w' => e = .returned (.int .i64 (stripesM L.map)) ∧ ∃ n, w' = w.drewN n := by
  obtain ⟨m, rfl, h2, h3⟩ := h
  exact logStripes_calls _ m L w h2 (okMap_pos hi.fm.ok) (by have := (h2.few hi.fm).2; omega)

/-- A record is put at the next position. -/
theorem put_at (h : At w0 w p L) (hi : L.Inv f N) (hp : Pow w0) (site seq : Int) (hf : f L.next = lawR site seq) (s0 : 0 ≤ site) (s1 : site < 8) (q0 : 1 ≤ seq) (q1 : seq ≤ 1048576) (hn : L.next ≤ 2147483647) (hr : 81 * ((N : Int) + 1) ≤ L.room) (hN : N ≤ 1048575) (hm : (L.map.length : Int) ≤ 2147483647) :
    Calls Tryz.prog 17 #[.pointer (some ⟨p, 0, none⟩), .int .i64 L.next, rv site seq] w fun e w' => e = .returned (.int .i64 0) ∧ At w0 w' p (L.putS L.next (f L.next)) ∧ (L.putS L.next (f L.next)).Inv f (N + 1) ∧ L.putS L.next (f L.next) = { L with segs := L.segs.set (L.k L.next) (segPutS (L.at L.next) (L.map.length : Int) L.next (f L.next)), next := L.next + 1 } := by
  have hpw := h.pow hp
  obtain ⟨m, rfl, h2, h3⟩ := h
  have h0 : 0 ≤ L.next := by have := hi.fm.trim0; have := hi.fm.head0; have := hi.fm.next0; omega
  obtain ⟨e1, e2, e3⟩ := hi.put (by rw [hf]; exact lawR_good s0 s1 q0 q1) (by rw [hf]; exact back_lawR site seq) (by rw [hf]; exact lawR_short h0 hn s0 s1 q0 q1) hn hr hN hm
  have C := logPut_calls w0.heap.size m L L.next (rv site seq) (f L.next) w h2 h3.size hi.fm (fun _ => hi.up) (by rw [hf]; exact lawR_is site seq w) (by rw [hf]; simp [lawR]) (by rw [hf]; exact law_key) (by rw [hf]; exact law_val) hpw
  rw [e1] at C
  exact C.mono fun e w' ⟨he, hg⟩ => ⟨he, At.goes h2 h3 hg, e3, e2⟩
/-- Another position, or a log that is down. -/
theorem put_not (h : At w0 w p L) (hi : L.fm) (hu : L.down = false → L.up) (hp : Pow w0) (pos site seq : Int) (hf : L.putE pos (lawR site seq) ≠ 0) :
    Calls Tryz.prog 17 #[.pointer (some ⟨p, 0, none⟩), .int .i64 pos, rv site seq] w fun e w' => e = .returned (.int .i64 (L.putE pos (lawR site seq))) ∧ At w0 w' p L := by
  have hpw := h.pow hp
  obtain ⟨m, rfl, h2, h3⟩ := h
  have C := logPut_calls w0.heap.size m L pos (rv site seq) (lawR site seq) w h2 h3.size hi hu (lawR_is site seq w) (by simp [lawR]) law_key law_val hpw
  have e : L.putS pos (lawR site seq) = L := by unfold LogD.putS; rw [if_neg hf]
  rw [e] at C
  exact C.mono fun e w' ⟨he, hg⟩ => ⟨he, At.goes h2 h3 hg⟩

theorem sync_at (h : At w0 w p L) (hi : L.Inv f N) (k : Nat) (hk : k < 8) :
    Calls Tryz.prog 19 #[.pointer (some ⟨p, 0, none⟩), .int .i64 (k : Int)] w fun e w' => e = .returned (.bool (decide ((L.segs.getD k noSeg).D.lasts < (L.segs.getD k noSeg).D.lines.length))) ∧ ∃ h', At w0 w' p (L.syncS k h') ∧ (L.syncS k h').Inv f N := by
  obtain ⟨m, rfl, h2, h3⟩ := h
  obtain ⟨h', ha, hn, hI, hle⟩ := hi.sync hk
  have := hi.fm.next1
  have h0 : 0 ≤ L.head := by have := hi.fm.trim0; have := hi.fm.head0; omega
  exact (logSync_calls w0.heap.size m L k h' w h2 h3.size (h2.fit hi.fm) hi.down hi.up.ok hk h0 (by omega) (fun _ => ha) hn).mono fun e w' ⟨he, hg⟩ => ⟨he, h', At.goes h2 h3 hg, hI⟩

theorem crash_at (h : At w0 w p L) (hi : L.Inv f N) (v : Value) (keep : List Int) (hv : ∀ W, Go.RowKit.Below w0.heap.size w0 W → IsNums .i64 W v keep) (hl : keep.length ≤ 1099511627776) (hk : ∀ x ∈ keep, -9223372036854775808 ≤ x ∧ x ≤ 9223372036854775807) :
    Calls Tryz.prog 14 #[.pointer (some ⟨p, 0, none⟩), v] w fun e w' => e = .returned (.tuple #[]) ∧ At w0 w' p (L.crash keep) := by
  obtain ⟨m, rfl, h2, h3⟩ := h
  exact (logCrash_calls w0.heap.size m L v keep w h2 hi.fm.eight h3.size (fun W hW => hv W (h3.trans hW)) hl hk).mono fun e w' ⟨he, hI, hT⟩ => ⟨he, At.turn h2 h3 hI hT⟩

theorem recover_at (keep : List Int) (h : At w0 w p (L.crash keep)) (hi : L.Inv f N) (hp : Pow w0) (hr : 81 * ((N : Int) + 1) ≤ L.room) (hn : L.next ≤ 2147483647) :
    Calls Tryz.prog 21 #[.pointer (some ⟨p, 0, none⟩)] w fun e w' => e = .returned (.int .i64 0) ∧ ∃ h' Rs, At w0 w' p ⟨L.room, L.ops, Rs, L.map, false, L.trim, L.gone, h', h'⟩ ∧ LogD.Inv ⟨L.room, L.ops, Rs, L.map, false, L.trim, L.gone, h', h'⟩ f (N + 1) ∧ L.head ≤ h' ∧ h' ≤ L.next ∧ (∀ S ∈ Rs, S.D.lasts = S.D.lines.length) ∧ ((∀ (k : Nat) S, L.segs[k]? = some S → wholeN S.D (geti keep (k : Int)) = S.D.lasts) → h' = L.head) := by
  have hpw := h.powF hp
  obtain ⟨m, rfl, h2, h3⟩ := h
  obtain ⟨h', r1, r2, r3, r4, r5, r6, Rs, r7, r8, r9, r10⟩ := hi.recover keep hr hn
  have := hi.fm.next1
  have C := logRecover_calls w0.heap.size m (L.crash keep) h' w h2 h3.size (crash_fm hi keep) rfl rfl rfl hpw r1 r2 r3 (by omega) r6
  rw [r7] at C
  exact C.mono fun e w' ⟨he, hg⟩ => ⟨he, h', Rs, At.goes h2 h3 hg, r8, r4, r5, r9, r10⟩

theorem trim_at (h : At w0 w p L) (hi : L.Inv f N) (hp : Pow w0) (hd : ∀ p, (f p).dep.length ≤ 17592186044416) (pos : Int) (v : Value) (l : List Int) (hv : IsNums .i64 w v l) (hl : l.length ≤ 1099511627776) (h1 : L.trim ≤ pos) (h2' : pos ≤ L.head) (h3' : everyB eqB l (L.vecTo pos) = true) (h4 : InS (L.vecTo pos)) (h5 : (L.vecTo pos).length ≤ 8) (hw : (L.vecTo pos).take (writtenL (L.vecTo pos)) = L.vecTo pos) (he : writeE L.own (textO (.trim pos (L.vecTo pos))) = 0) (hr : 81 * ((N : Int) + 1) ≤ L.room) (hn : L.next ≤ 2147483647) :
    Calls Tryz.prog 32 #[.pointer (some ⟨p, 0, none⟩), .int .i64 pos, v] w fun e w' => e = .returned (.int .i64 0) ∧ ∃ h', At w0 w' p (L.trimS pos h') ∧ (L.trimS pos h').Inv f (N + 1) ∧ L.head ≤ h' ∧ Kept w w' := by
  have hpw := h.powF hp
  obtain ⟨m, rfl, h2, h3⟩ := h
  obtain ⟨hok, h', ha, hle, hI⟩ := hi.trimmed h1 h2' hr hn h4 h5 hw
  have := hi.fm.next1
  exact (logTrim_calls w0.heap.size m L pos h' v l _ w h2 h3.size hi.fm hi.up (hi.has hd) hv hl hpw h1 h2' h3' h4 h5 he hok ha (by omega)).mono fun e w' ⟨he, hg⟩ => ⟨he, h', At.goes h2 h3 hg, hI, ha.le, hg.kept h2⟩
theorem trim_not (h : At w0 w p L) (hi : L.Inv f N) (hd : ∀ p, (f p).dep.length ≤ 17592186044416) (pos : Int) (v : Value) (l : List Int) (hv : IsNums .i64 w v l) (hl : l.length ≤ 1099511627776) (hb : pos < L.trim ∨ L.head < pos ∨ everyB eqB l (L.vecTo pos) = false) :
    Calls Tryz.prog 32 #[.pointer (some ⟨p, 0, none⟩), .int .i64 pos, v] w fun e w' => e = .returned (.int .i64 1) ∧ At w0 w' p L := by
  obtain ⟨m, rfl, h2, h3⟩ := h
  exact (logTrim_bad w0.heap.size m L pos v l _ w h2 hi.fm hi.up (hi.has hd) hv hl hb).mono fun e w' ⟨he, hB⟩ => ⟨he, m, rfl, h2.keep hB, h3.trans (hB.mono h3.size)⟩
theorem trimmed_at (h : At w0 w p L) (hi : L.Inv f N) : Calls Tryz.prog 33 #[.pointer (some ⟨p, 0, none⟩)] w fun e w' => ∃ v, e = .returned (.tuple #[.int .i64 L.trim, v]) ∧ w'.ownsRow 0 3 1 v L.gone.length (L.gone.map (Value.int .i64)) ∧ Go.RowKit.Below w.heap.size w w' := by
  obtain ⟨m, rfl, h2, h3⟩ := h
  exact (logTrimmed_calls _ m L w h2 (by have := hi.fm.gone8; omega)).mono fun e w' ⟨v, he, ho, hB⟩ => ⟨v, he, ownsRow_low ho (Nat.zero_le _), hB⟩
theorem vec_at (h : At w0 w p L) (hi : L.Inv f N) (hd : ∀ p, (f p).dep.length ≤ 17592186044416) : Calls Tryz.prog 35 #[.pointer (some ⟨p, 0, none⟩)] w fun e w' => ∃ v, e = .returned v ∧ w'.ownsRow 0 3 1 v (L.vecTo L.head).length ((L.vecTo L.head).map (Value.int .i64)) ∧ Go.RowKit.Below w.heap.size w w' := by
  obtain ⟨m, rfl, h2, h3⟩ := h
  exact (logVec_calls _ m L _ w h2 hi.fm (fun _ => hi.up) (hi.has hd)).mono fun e w' ⟨v, he, ho, hB⟩ => ⟨v, he, ownsRow_low ho (Nat.zero_le _), hB⟩

theorem resize_at (h : At w0 w p L) (hi : L.Inv f N) (hp : Pow w0) (n : Int) (hh : L.head = L.next) (hn1 : 1 ≤ n) (hn8 : n ≤ 8) (hr : 81 * ((N : Int) + 1) ≤ L.room) (hn : L.next ≤ 2147483647) (hm : (L.map.length : Int) ≤ 2147483646) (he : writeE L.own (textO (.map (L.map ++ [(L.next, n)]))) = 0) :
    Calls Tryz.prog 27 #[.pointer (some ⟨p, 0, none⟩), .int .i64 n] w fun e w' => e = .returned (.int .i64 0) ∧ At w0 w' p (L.resizeS n) ∧ (L.resizeS n).Inv f (N + 1) ∧ (∀ S ∈ (L.resizeS n).segs, S.D.lasts = S.D.lines.length) ∧ Kept w w' := by
  have hpw := h.powF hp
  obtain ⟨m, rfl, h2, h3⟩ := h
  obtain ⟨r1, r2, r3, r4, r5⟩ := hi.resized hh hn1 hn8 hr hn hm
  exact (logResize_calls w0.heap.size m L n w h2 h3.size hi.fm hi.up hh hpw r1 r2 r3 he).mono fun e w' ⟨he, hg⟩ => ⟨he, At.goes h2 h3 hg, r4, r5, hg.kept h2⟩
theorem resize_not (h : At w0 w p L) (hi : L.Inv f N) (n : Int) (hh : L.head ≠ L.next) (hn1 : 1 ≤ n) (hn8 : n ≤ 8) :
    Calls Tryz.prog 27 #[.pointer (some ⟨p, 0, none⟩), .int .i64 n] w fun e w' => e = .returned (.int .i64 12) ∧ At w0 w' p L := by
  obtain ⟨m, rfl, h2, h3⟩ := h
  have hn0 := hi.fm.next0
  exact (logResize_state w0.heap.size m L n w h2 hi.fm hi.up hh (okMap_snoc hi.fm.ok (fun x hx => by have := hi.froms x hx; omega) hn1 hn8)).mono fun e w' ⟨he, hB⟩ => ⟨he, m, rfl, h2.keep hB, h3.trans (hB.mono h3.size)⟩

theorem get_at (h : At w0 w p L) (hf : L.fm) (hu : L.down = false → L.up) (pos : Int) (hp1 : pos ≤ 9223372036854775807) :
    Calls Tryz.prog 23 #[.pointer (some ⟨p, 0, none⟩), .int .i64 pos] w fun e w' => ∃ v, e = .returned (.tuple #[v, .int .i64 (L.get pos).2]) ∧ IsRec w' v (L.get pos).1 ∧ Go.RowKit.Below w.heap.size w w' := by
  obtain ⟨m, rfl, h2, h3⟩ := h
  exact (logGet_calls _ m L pos w h2 hf hu hp1).mono fun e w' ⟨v, he, ho, hB⟩ => ⟨v, he, ho.isRec, hB⟩
end

end Go.Proofs.YtjbjjfndkpcciaaGreatDoor

/- Which segments are synced, and where the head stands. Pure laws; the rows of a log. Own work; no statement. -/
set_option linter.unusedSimpArgs false
set_option linter.unusedVariables false
namespace Go.Proofs.YtjbjjfndkpcciaaGreatDoor
open Go.RowKit Go.Shelf Go.Sort

section
variable {L : LogD} {f : Int → RecD} {N : Nat}

/-- Just some segments are synced; of the others nothing is. -/
def Sy (L : LogD) (sy : Nat → Bool) : Prop := ∀ (i : Nat) S, L.segs[i]? = some S → S.D.lasts = if sy i = true then S.D.lines.length else 0
/-- Each line is a slot's. -/
def Full (L : LogD) : Prop := ∀ S ∈ L.segs, S.D.lines.length = S.slots.length

theorem lasts_sy (h : L.Inv f N) {sy : Nat → Bool} (hs : Sy L sy) {p : Int} (h1 : L.trim ≤ p) (h2 : p < L.next) : L.lasts p = sy (L.k p) := by
  have h0 := h.fm.trim0
  obtain ⟨x, hx, e⟩ := h.all p h1 h2
  have hm := h.seg (p := p) (by omega)
  have hl := hs _ _ (h.fm.at (pos := p) (by omega))
  have hln := (h.segs _ hm).1.front.lines x hx
  cases hb : sy (L.k p) with
  | true =>
    rw [hb, if_pos rfl] at hl
    exact (lasts_at (h.segs _ hm).1.ok).2 ⟨x, hx, e, by rw [hl]; exact hln⟩
  | false =>
    rw [hb, if_neg (by decide)] at hl
    cases hq : L.lasts p with
    | false => rfl
    | true =>
      obtain ⟨y, -, -, hy⟩ := (lasts_at (h.segs _ hm).1.ok).1 hq
      omega
theorem head_is (h : L.Inv f N) {sy : Nat → Bool} (hs : Sy L sy) {b : Int} (h1 : L.trim ≤ b) (h2 : b ≤ L.next) (h3 : ∀ p, L.trim ≤ p → p < b → sy (L.k p) = true) (h4 : b = L.next ∨ sy (L.k b) = false) : L.head = b := by
  refine adv_one h.adv ⟨h1, fun p p1 p2 => by rw [lasts_sy h hs p1 (by omega)]; exact h3 p p1 p2, ?_⟩
  rcases Int.lt_or_eq_of_le h2 with h5 | h5
  · rw [lasts_sy h hs h1 h5]
    rcases h4 with h4 | h4
    · omega
    · exact h4
  · exact h.stop (by omega)

theorem put_parts (h : L.Inv f N) (he : L.putE L.next (f L.next) = 0) : ∃ S', segPutS (L.at L.next) (L.map.length : Int) L.next (f L.next) = S' ∧ S'.D.lasts = (L.at L.next).D.lasts ∧ S'.D.lines.length = (L.at L.next).D.lines.length + 1 ∧ S'.slots.length = (L.at L.next).slots.length + 1 := by
  have he' : segPutE (L.at L.next) (L.map.length : Int) L.next (f L.next) = 0 := by
    unfold LogD.putE at he
    rw [if_neg (by rw [h.down]; decide), if_neg (by omega)] at he
    exact he
  have := segPut_is he'
  refine ⟨_, rfl, by rw [this], by rw [this]; simp, ?_⟩
  rw [this]
  dsimp only
  rw [insL_length]
  have hc := List.countP_le_length (p := fun y => decide (y < L.next)) (l := poss (L.at L.next))
  have hp : (poss (L.at L.next)).length = (L.at L.next).slots.length := by simp [poss]
  unfold belowN
  omega
theorem put_sy (h : L.Inv f N) (he : L.putE L.next (f L.next) = 0) {sy : Nat → Bool} (hs : Sy L sy) (hk : sy (L.k L.next) = false) : Sy (L.putS L.next (f L.next)) sy := by
  obtain ⟨S', e1, e2, e3, e4⟩ := put_parts h he
  have h0 : 0 ≤ L.next := by have := h.fm.trim0; have := h.fm.head0; have := h.fm.next0; omega
  intro i S hS
  have hS2 : (L.segs.set (L.k L.next) S')[i]? = some S := by
    unfold LogD.putS at hS
    rw [if_pos he, e1] at hS
    exact hS
  rcases set_get hS2 with ⟨rfl, rfl⟩ | ⟨-, h2⟩
  · have := hs _ _ (h.fm.at h0)
    rw [hk, if_neg (by decide)] at this ⊢
    rw [e2]
    exact this
  · exact hs i S h2
theorem put_full (h : L.Inv f N) (he : L.putE L.next (f L.next) = 0) (hf : Full L) : Full (L.putS L.next (f L.next)) := by
  obtain ⟨S', e1, e2, e3, e4⟩ := put_parts h he
  have h0 : 0 ≤ L.next := by have := h.fm.trim0; have := h.fm.head0; have := h.fm.next0; omega
  intro S hS
  have hS2 : S ∈ L.segs.set (L.k L.next) S' := by
    unfold LogD.putS at hS
    rw [if_pos he, e1] at hS
    exact hS
  rcases List.mem_or_eq_of_mem_set hS2 with h1 | rfl
  · exact hf S h1
  · rw [e3, e4, hf _ (h.seg h0)]
theorem sync_sy (h8 : L.segs.length = 8) {sy : Nat → Bool} (hs : Sy L sy) {k : Nat} (hk : k < 8) (h' : Int) : Sy (L.syncS k h') fun i => if i = k then true else sy i := by
  intro i S hS
  have hS2 : (L.segs.set k (syncD (L.segs.getD k noSeg)))[i]? = some S := hS
  rcases set_get hS2 with ⟨rfl, rfl⟩ | ⟨h1, h2⟩
  · rw [if_pos (by simp)]
    rfl
  · have := hs i S h2
    simpa [h1] using this
theorem sync_full {k : Nat} (h8 : L.segs.length = 8) (hk : k < 8) (hf : Full L) (h' : Int) : Full (L.syncS k h') := by
  intro S hS
  have hS2 : S ∈ L.segs.set k (syncD (L.segs.getD k noSeg)) := hS
  rcases List.mem_or_eq_of_mem_set hS2 with h1 | rfl
  · exact hf S h1
  · have hk' : k < L.segs.length := by omega
    rw [List.getD_eq_getElem?_getD, List.getElem?_eq_getElem hk']
    exact hf L.segs[k] (List.getElem_mem hk')
/-- Does something wait there? -/
theorem waits_sy (h : L.Inv f N) {sy : Nat → Bool} (hs : Sy L sy) (hf : Full L) {k : Nat} (hk : k < 8) : ((L.segs.getD k noSeg).D.lasts < (L.segs.getD k noSeg).D.lines.length) ↔ (sy k = false ∧ ∃ p, L.trim ≤ p ∧ p < L.next ∧ L.k p = k) := by
  have h8 := h.fm.eight
  obtain ⟨S, hS⟩ : ∃ S, L.segs[k]? = some S := ⟨_, List.getElem?_eq_getElem (by omega)⟩
  have hg : L.segs.getD k noSeg = S := by rw [List.getD_eq_getElem?_getD, hS]; rfl
  rw [hg]
  have hl := hs k S hS
  have hm := List.mem_of_getElem? hS
  have hfl := hf S hm
  constructor
  · intro hlt
    cases hb : sy k with
    | true =>
      rw [hb, if_pos rfl] at hl
      omega
    | false =>
      refine ⟨rfl, ?_⟩
      obtain ⟨x, hx⟩ : ∃ x, x ∈ S.slots := List.exists_mem_of_length_pos (by omega)
      obtain ⟨q1, q2, -⟩ := h.slots k S hS x hx
      have := ((h.segs S hm).1.ok.each x hx).2.2.1
      have ht := (h.segs S hm).2.2
      exact ⟨x.pos, by omega, q1, q2⟩
  · rintro ⟨hb, p, p1, p2, p3⟩
    rw [hb, if_neg (by decide)] at hl
    obtain ⟨x, hx, -⟩ := h.all p p1 p2
    have ha := h.fm.at (pos := p) (by have := h.fm.trim0; omega)
    rw [p3, hS] at ha
    cases ha
    have := List.length_pos_of_mem hx
    omega
theorem new_sy (k room : Int) : Sy (newL k room) fun _ => false := by
  intro i S hS
  have : S = emptyS ⟨room, [], 0⟩ := List.eq_of_mem_replicate (List.mem_of_getElem? (show (List.replicate 8 (emptyS ⟨room, [], 0⟩))[i]? = some S from hS))
  rw [this]
  rfl
theorem new_full (k room : Int) : Full (newL k room) := by
  intro S hS
  have : S = emptyS ⟨room, [], 0⟩ := List.eq_of_mem_replicate (show S ∈ List.replicate 8 (emptyS ⟨room, [], 0⟩) from hS)
  rw [this]
  rfl
/-- One epoch: a position's stripe. -/
theorem k_one {k : Int} (hm : L.map = [(0, k)]) (h1 : 1 ≤ k) (h8 : k ≤ 8) {p : Int} (h0 : 0 ≤ p) : L.k p = (p % k).toNat := by
  have hok : okMap [(0, k)] = true := by
    unfold okMap
    simp [okFrom]
    omega
  unfold LogD.k findM
  rw [hm, if_pos ⟨h0, hok⟩]
  dsimp only
  simp [epochM, h0]
/-- Some segments have all synced, whatever of the others. -/
def Sd (L : LogD) (sy : Nat → Prop) : Prop := ∀ (i : Nat) S, L.segs[i]? = some S → sy i → S.D.lasts = S.D.lines.length
theorem sync_sd {sy : Nat → Prop} (hs : Sd L sy) (k : Nat) (h' : Int) : Sd (L.syncS k h') fun i => i = k ∨ sy i := by
  intro i S hS hi
  have hS2 : (L.segs.set k (syncD (L.segs.getD k noSeg)))[i]? = some S := hS
  rcases set_get hS2 with ⟨rfl, rfl⟩ | ⟨h1, h2⟩
  · rfl
  · rcases hi with h3 | h3
    · exact absurd h3 h1
    · exact hs i S h2 h3
theorem sd_all (h : L.Inv f N) (hs : Sd L fun i => i < 8) : (∀ S ∈ L.segs, S.D.lasts = S.D.lines.length) ∧ L.head = L.next := by
  have h1 : ∀ S ∈ L.segs, S.D.lasts = S.D.lines.length := fun S hS => by
    obtain ⟨i, hi, rfl⟩ := List.mem_iff_getElem.1 hS
    exact hs i _ (List.getElem?_eq_getElem hi) (by rw [← h.fm.eight]; exact hi)
  exact ⟨h1, h.head_all h1⟩

/-- The rows of a log. -/
theorem rows_at {w0 w : World} {p : Nat} (h : At w0 w p L) (hi : L.Inv f N) (ht : 0 ≤ L.trim) (hd : ∀ p, (f p).dep.length ≤ 17592186044416) (hN : (L.next - L.trim).toNat ≤ 1048576) :
    Calls Tryz.prog 31 #[.pointer (some ⟨p, 0, none⟩), .int .i64 0] w fun e w' => ∃ lb, e = .returned (.func (.func 78) #[] lb) ∧ Go.RowKit.Below w.heap.size w w' ∧
      (∀ most : Nat, (L.head - L.trim).toNat ≤ most → most ≤ 1048576 → Calls Tryz.prog 30 #[.func (.func 78) #[] lb, .int .i64 (most : Int)] w' fun e w'' => ∃ va vb, e = .returned (.tuple #[va, vb, .bool true]) ∧
        IsNums .i64 w'' va ((List.range (L.head - L.trim).toNat).map fun (i : Nat) => L.trim + (i : Int)) ∧ IsRecs w'' vb ((List.range (L.head - L.trim).toNat).map fun (i : Nat) => f (L.trim + (i : Int))) ∧ Go.RowKit.Below w'.heap.size w' w'') := by
  obtain ⟨m, rfl, h2, h3⟩ := h
  have hh := hi.fm.head0
  have hn := hi.fm.next0
  have hx := hi.fm.next1
  have hr := hi.recs (n := (L.head - L.trim).toNat) (by omega)
  refine (logAll_calls _ m L 0 _ w h2 hi.fm (fun _ => hi.up) ht (hi.has hd) hN (by decide)).mono ?_
  rintro e w' ⟨b, c, v, pl, rfl, hA, hpl, hB⟩
  refine ⟨_, rfl, hB, fun most h4 h5 => ?_⟩
  refine (logRows_calls b c v pl L _ most w' hA hpl ht (by omega) (fun q hq => ?_) h4 h5).mono ?_
  · rw [hr] at hq
    obtain ⟨i, -, rfl⟩ := List.mem_map.1 hq
    exact hd _
  · rintro e w'' ⟨va, vb, he, h6, h7, h8⟩
    rw [hr] at h6 h7
    refine ⟨va, vb, he, ?_, ?_, h8⟩
    · simpa [List.map_map, Function.comp_def] using h6
    · simpa [List.map_map, Function.comp_def] using h7
end

end Go.Proofs.YtjbjjfndkpcciaaGreatDoor
