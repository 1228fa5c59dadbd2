/- Own work: the parts G31, G32, G33, RefA, G34, G35 of the proof, laid together. -/
import Derived.Test.YtjbjjfndkpcciaaGreatDoorPartLogStripes18
import Derived.Test.YtjbjjfndkpcciaaGreatDoorPartLogStripes11
import Derived.Test.YtjbjjfndkpcciaaGreatDoorPartLogStripes7
import Derived.LaidEqlPtr
/- Logs in order: new; what is there; trimmed; resized. Pure laws. Own work; no statement. -/
set_option linter.unusedSimpArgs false
set_option linter.unusedVariables false
namespace Go.Proofs.YtjbjjfndkpcciaaGreatDoor

section
variable {L : LogD} {f : Int → RecD} {N : Nat}

theorem inv_new {k room : Int} (f : Int → RecD) (h1 : 1 ≤ k) (h2 : k ≤ 8) : (newL k room).Inv f 0 := by
  have hok : okMap [(0, k)] = true := by
    unfold okMap
    simp [okFrom]
    omega
  have hs : ∀ p, ((newL k room).at p).slots = [] := fun p => by
    unfold LogD.at newL
    rw [List.getD_eq_getElem?_getD, List.getElem?_replicate]
    split <;> rfl
  have hl : ∀ p, (newL k room).lasts p = false := fun p => by
    unfold LogD.lasts lastsS
    rw [hs]
    simp
  refine ⟨⟨by simp [newL], hok, fun x hx => ?_, by simp [newL], Int.le_refl _, Int.le_refl _, Int.le_refl _, (by decide : (0 : Int) ≤ 2147483648), fun x hx => (by cases hx), Nat.zero_le _, trivial, rfl⟩, rfl, fun S hS => ?_, fun j S hS x hx => ?_, fun p h3 h4 => ?_, ⟨Int.le_refl _, fun p h3 h4 => ?_, hl _⟩, rfl, fun y hy => ?_⟩
  · have : x = (0, k) := by simpa [newL] using hx
    rw [this]
    exact ⟨⟨Int.le_refl _, by dsimp only; omega⟩, by dsimp only; omega, by dsimp only; omega⟩
  · have : S = emptyS ⟨room, [], 0⟩ := by
      unfold newL at hS
      exact List.eq_of_mem_replicate hS
    rw [this]
    exact ⟨in_new 0, by simp [newL, emptyS], rfl⟩
  · have : S = emptyS ⟨room, [], 0⟩ := by
      unfold newL at hS
      exact List.eq_of_mem_replicate (List.mem_of_getElem? hS)
    rw [this] at hx
    cases hx
  · have a : (0 : Int) ≤ p := h3
    have b : p < (0 : Int) := h4
    omega
  · have a : (0 : Int) ≤ p := h3
    have b : p < (0 : Int) := h4
    omega
  · have : y = (0, k) := by simpa [newL] using hy
    rw [this]
    exact Int.le_refl _

/-- What is told of a position that is there. -/
theorem LogD.Inv.get (h : L.Inv f N) {p : Int} (h1 : L.trim ≤ p) (h2 : p < L.next) : L.get p = (f p, 0) := by
  have h0 := h.fm.trim0
  obtain ⟨x, hx, e⟩ := h.all p h1 h2
  have h3 := (h.slots _ _ (h.fm.at (by omega)) x hx).2.2
  unfold LogD.get
  rw [if_neg (by rw [h.down]; decide), if_neg (by omega), if_neg (by omega), if_neg (by omega)]
  have := getS_mem (h.segs _ (h.seg (by omega))).1.ok hx
  rw [e] at this
  rw [this, h3, e]
theorem LogD.Inv.get_trim (h : L.Inv f N) {p : Int} (h0 : 0 ≤ p) (h1 : p < L.trim) : L.get p = (zeroR, 8) := by
  unfold LogD.get
  rw [if_neg (by rw [h.down]; decide), if_neg (by omega), if_pos h1]
theorem LogD.Inv.get_next (h : L.Inv f N) {p : Int} (h1 : L.next ≤ p) : L.get p = (zeroR, 9) := by
  have h0 := h.fm.trim0
  have := h.fm.head0
  have := h.fm.next0
  unfold LogD.get
  rw [if_neg (by rw [h.down]; decide), if_neg (by omega), if_neg (by omega), if_pos h1]
theorem LogD.Inv.has (h : L.Inv f N) (hd : ∀ p, (f p).dep.length ≤ 17592186044416) : L.Has L.trim (L.next - L.trim).toNat := by
  have h0 := h.fm.trim0
  have h1 := h.fm.head0
  have h2 := h.fm.next0
  have h3 := h.fm.next1
  refine ⟨fun i hi => ?_, by omega, by omega, by omega⟩
  have e := h.get (p := L.trim + (i : Int)) (by omega) (by omega)
  rw [e]
  exact ⟨by omega, rfl, hd _⟩
theorem LogD.Inv.recs (h : L.Inv f N) {n : Nat} (hn : L.trim + n ≤ L.next) : L.recs L.trim n = (List.range n).map fun (i : Nat) => (L.trim + (i : Int), f (L.trim + (i : Int))) := by
  unfold LogD.recs
  refine List.map_congr_left fun i hi => ?_
  rw [h.get (by omega) (by have := List.mem_range.1 hi; omega)]
/-- All lasts: the head is the next one. -/
theorem LogD.Inv.head_all (h : L.Inv f N) (hs : ∀ S ∈ L.segs, S.D.lasts = S.D.lines.length) : L.head = L.next := by
  have h0 := h.fm.trim0
  have h1 := h.fm.head0
  have h2 := h.fm.next0
  rcases Int.lt_or_eq_of_le h2 with h3 | h3
  · obtain ⟨x, hx, e⟩ := h.all L.head h1 h3
    have hm := h.seg (p := L.head) (by omega)
    have := h.adv.stop
    rw [(lasts_at (h.segs _ hm).1.ok).2 ⟨x, hx, e, by rw [hs _ hm]; exact (h.segs _ hm).1.front.lines x hx⟩] at this
    cases this
  · exact h3

theorem at_map {L M : LogD} {g : SegD → SegD} (hf : L.fm) (hm : M.map = L.map) (hs : M.segs = L.segs.map g) {p : Int} (hp : 0 ≤ p) : M.at p = g (L.at p) := by
  have hk : M.k p = L.k p := by unfold LogD.k; rw [hm]
  have := hf.at hp
  unfold LogD.at at *
  rw [hk, hs, List.getD_eq_getElem?_getD, List.getElem?_map, this]
  rfl

theorem LogD.Inv.trimmed (h : L.Inv f N) {pos : Int} (h1 : L.trim ≤ pos) (h2 : pos ≤ L.head) (hr : 81 * ((N : Int) + 1) ≤ L.room) (hn : L.next ≤ 2147483647) (hv : InS (L.vecTo pos)) (h8 : (L.vecTo pos).length ≤ 8) (hw : (L.vecTo pos).take (writtenL (L.vecTo pos)) = L.vecTo pos) :
    (∀ S ∈ L.segs, (segTrimS S pos).ok) ∧ ∃ h', (L.trimS pos h').Adv L.head h' ∧ h' ≤ L.next ∧ (L.trimS pos h').Inv f (N + 1) := by
  have hh0 := h.fm.head0
  have ht0 := h.fm.trim0
  have hn0 := h.fm.next0
  have hin : ∀ S ∈ L.segs, _ := fun S hS => in_trim (h.segs S hS).1 hr (p := pos) (by rw [(h.segs S hS).2.2]; exact h1) (by omega)
  have hat : ∀ h' p, 0 ≤ p → (L.trimS pos h').at p = segTrimS (L.at p) pos := fun h' p hp => at_map (L := L) (M := L.trimS pos h') (g := fun S => segTrimS S pos) h.fm rfl rfl hp
  have hok : ∀ h' p, 0 ≤ p → ((L.trimS pos h').at p).ok := fun h' p hp => by rw [hat h' p hp]; exact (hin _ (h.seg hp)).1.ok
  have hll : ∀ h' p, pos ≤ p → L.lasts p = true → (L.trimS pos h').lasts p = true := fun h' p hp hl => by
    have hp0 : 0 ≤ p := by omega
    obtain ⟨x, hx, e, hx'⟩ := (lasts_at (h.segs _ (h.seg hp0)).1.ok).1 hl
    obtain ⟨q1, q2, q3, q4, q5⟩ := hin _ (h.seg hp0)
    have hxg := (q4 x).2 ⟨hx, by omega⟩
    refine (lasts_at (hok h' p hp0)).2 ⟨x, by rw [hat h' p hp0]; exact hxg, e, ?_⟩
    rw [hat h' p hp0]
    rcases q5 with q5 | q5
    · rw [q5]
      exact q1.front.lines x hxg
    · rw [q5]
      exact hx'
  have hnl : (L.trimS pos L.head).lasts L.next = false := by
    cases hl : (L.trimS pos L.head).lasts L.next with
    | false => rfl
    | true =>
      obtain ⟨x, hx, e, -⟩ := (lasts_at (hok _ _ (by omega))).1 hl
      rw [hat _ _ (by omega)] at hx
      have := (h.slots _ _ (h.fm.at (by omega)) x ((hin _ (h.seg (by omega))).2.2.2.1 x |>.1 hx).1).1
      omega
  obtain ⟨h', ha, hle⟩ := adv_is (L := L.trimS pos L.head) (a := L.head) hn0 hnl
  have ha' : (L.trimS pos h').Adv L.head h' := Adv.of (L := L.trimS pos L.head) (M := L.trimS pos h') rfl rfl ha
  have hal := ha'.le
  refine ⟨fun S hS => (hin S hS).1.ok, h', ha', hle, ⟨by unfold LogD.trimS; simp [h.fm.eight], h.fm.ok, h.fm.mapS, ?_, by show 0 ≤ pos; omega, by show pos ≤ h'; omega, hle, h.fm.next1, hv, h8, ?_, ?_⟩, h.down, fun S hS => ?_, fun k S hS x hx => ?_, fun p p1 p2 => ?_, ⟨by show pos ≤ h'; omega, fun p p1 p2 => ?_, ha'.stop⟩, ?_, fun y hy => Int.le_trans (h.froms y hy) hal⟩
  · have := h.fm.few
    show L.map.length ≤ (L.ops ++ [_]).length + 1
    simp
    omega
  · show OkOps L.st0 (L.ops ++ [.trim pos (L.vecTo pos)])
    refine okOps_snoc _ _ _ h.fm.ops ?_
    rw [h.run]
    exact ⟨h1, by omega, hv, h8⟩
  · show (runO L.st0 (L.ops ++ [.trim pos (L.vecTo pos)])).1 = L.map
    rw [runO_snoc, h.run]
    rfl
  · obtain ⟨T, hT, rfl⟩ := List.mem_map.1 (show S ∈ L.segs.map fun S => segTrimS S pos from hS)
    obtain ⟨q1, q2, q3, -, -⟩ := hin T hT
    exact ⟨q1, by rw [q2]; exact (h.segs T hT).2.1, q3⟩
  · have hS' : (L.segs.map fun S => segTrimS S pos)[k]? = some S := hS
    rw [List.getElem?_map] at hS'
    obtain ⟨T, hT, rfl⟩ := Option.map_eq_some_iff.1 hS'
    have hxT := ((hin T (List.mem_of_getElem? hT)).2.2.2.1 x).1 hx
    exact h.slots k T hT x hxT.1
  · have p1 : pos ≤ p := p1
    obtain ⟨x, hx, e⟩ := h.all p (by omega) p2
    rw [hat h' p (by omega)]
    exact ⟨x, ((hin _ (h.seg (by omega))).2.2.2.1 x).2 ⟨hx, by omega⟩, e⟩
  · have p1 : pos ≤ p := p1
    rcases Int.lt_or_le p L.head with h3 | h3
    · exact hll h' p p1 (h.adv.all p (by omega) h3)
    · exact ha'.all p h3 p2
  · show runO L.st0 (L.ops ++ [.trim pos (L.vecTo pos)]) = (L.map, pos, L.vecTo pos)
    rw [runO_snoc, h.run]
    show (L.map, pos, (L.vecTo pos).take (writtenL (L.vecTo pos))) = _
    rw [hw]

theorem LogD.Inv.resized (h : L.Inv f N) {n : Int} (hh : L.head = L.next) (hn1 : 1 ≤ n) (hn8 : n ≤ 8) (hr : 81 * ((N : Int) + 1) ≤ L.room) (hn : L.next ≤ 2147483647) (hm : (L.map.length : Int) ≤ 2147483646) :
    okMap (L.map ++ [(L.next, n)]) = true ∧ MapS (L.map ++ [(L.next, n)]) ∧ (∀ S ∈ L.segs, ¬ (L.map.length : Int) ≤ S.sealed → segSealE S (L.map.length : Int) = 0) ∧ (L.resizeS n).Inv f (N + 1) ∧ (∀ S ∈ (L.resizeS n).segs, S.D.lasts = S.D.lines.length) := by
  have hh0 := h.fm.head0
  have ht0 := h.fm.trim0
  have hn0 := h.fm.next0
  have hok := okMap_snoc (f := L.next) (n := n) h.fm.ok (fun x hx => by have := h.froms x hx; omega) hn1 hn8
  have hms : MapS (L.map ++ [(L.next, n)]) := fun x hx => by
    rcases List.mem_append.1 hx with h1 | h1
    · exact h.fm.mapS x h1
    · rw [List.mem_singleton.1 h1]
      dsimp only
      omega
  have hpos := okMap_pos h.fm.ok
  have hin : ∀ S ∈ L.segs, _ := fun S hS => in_seal (h.segs S hS).1 hr (k := (L.map.length : Int)) (h.segs S hS).2.1 (by omega)
  have hk : ∀ p, 0 ≤ p → p < L.next → (L.resizeS n).k p = L.k p := fun p p0 p1 => by
    unfold LogD.k
    show (findM (L.map ++ [(L.next, n)]) p).2.1.toNat = _
    rw [find_snoc h.fm.ok hok p0 p1]
  have hat : ∀ p, 0 ≤ p → p < L.next → (L.resizeS n).at p = sealTo (L.map.length : Int) (L.at p) := fun p p0 p1 => by
    have := h.fm.at p0
    unfold LogD.at at *
    rw [hk p p0 p1]
    show (L.segs.map (sealTo (L.map.length : Int))).getD (L.k p) noSeg = _
    rw [List.getD_eq_getElem?_getD, List.getElem?_map, this]
    rfl
  have hR : (L.resizeS n).map = L.map ++ [(L.next, n)] := rfl
  have hfm : (L.resizeS n).fm := by
    refine ⟨by unfold LogD.resizeS; simp [h.fm.eight], hok, hms, ?_, ht0, hh0, hn0, h.fm.next1, h.fm.inS, h.fm.gone8, ?_, ?_⟩
    · have := h.fm.few
      show (L.map ++ [_]).length ≤ (L.ops ++ [_]).length + 1
      simp
      omega
    · have hst : (L.resizeS n).st0 = L.st0 := by
        unfold LogD.st0 LogD.resizeS
        dsimp only
        rw [List.take_append_of_le_length (by omega)]
      rw [hst]
      refine okOps_snoc _ _ _ h.fm.ops ?_
      exact ⟨hok, hms⟩
    · have hst : (L.resizeS n).st0 = L.st0 := by
        unfold LogD.st0 LogD.resizeS
        dsimp only
        rw [List.take_append_of_le_length (by omega)]
      rw [hst]
      show (runO L.st0 (L.ops ++ [_])).1 = _
      rw [runO_snoc]
      rfl
  have hseg : ∀ S ∈ (L.resizeS n).segs, S.In L.room (N + 1) ∧ S.sealed < ((L.resizeS n).map.length : Int) ∧ S.trim = L.trim := fun S hS => by
    obtain ⟨T, hT, rfl⟩ := List.mem_map.1 (show S ∈ L.segs.map (sealTo (L.map.length : Int)) from hS)
    obtain ⟨-, q1, q2, q3, -⟩ := hin T hT
    exact ⟨q1, by rw [q2, hR]; simp; omega, by rw [q3]; exact (h.segs T hT).2.2⟩
  have hsl : ∀ (j : Nat) (S : SegD), (L.resizeS n).segs[j]? = some S → ∃ T, L.segs[j]? = some T ∧ S.slots = T.slots := fun j S hS => by
    have hS' : (L.segs.map (sealTo (L.map.length : Int)))[j]? = some S := hS
    rw [List.getElem?_map] at hS'
    obtain ⟨T, hT, rfl⟩ := Option.map_eq_some_iff.1 hS'
    exact ⟨T, hT, (hin T (List.mem_of_getElem? hT)).2.2.2.2.1⟩
  have hpn : ∀ (j : Nat) (S : SegD), (L.resizeS n).segs[j]? = some S → ∀ x ∈ S.slots, x.pos < L.next := fun j S hS x hx => by
    obtain ⟨T, hT, e⟩ := hsl j S hS
    rw [e] at hx
    exact (h.slots j T hT x hx).1
  refine ⟨hok, hms, fun S hS _ => (hin S hS).1, ⟨hfm, h.down, hseg, fun k S hS x hx => ?_, fun p p1 p2 => ?_, ⟨hh0, fun p p1 p2 => ?_, ?_⟩, ?_, fun y hy => ?_⟩, fun S hS => ?_⟩
  · obtain ⟨T, hT, e⟩ := hsl k S hS
    rw [e] at hx
    obtain ⟨q1, q2, q3⟩ := h.slots k T hT x hx
    have hx0 := ((h.segs T (List.mem_of_getElem? hT)).1.ok.each x hx).1
    exact ⟨q1, by rw [hk _ hx0 q1]; exact q2, q3⟩
  · have p1 : L.trim ≤ p := p1
    have p2 : p < L.next := p2
    obtain ⟨x, hx, e⟩ := h.all p p1 p2
    rw [hat p (by omega) p2]
    exact ⟨x, by rw [(hin _ (h.seg (by omega))).2.2.2.2.1]; exact hx, e⟩
  · have p1 : L.trim ≤ p := p1
    have p2 : p < L.head := p2
    obtain ⟨x, hx, e⟩ := h.all p p1 (by omega)
    have hq := hin _ (h.seg (p := p) (by omega))
    have hxg : x ∈ (sealTo (L.map.length : Int) (L.at p)).slots := by rw [hq.2.2.2.2.1]; exact hx
    refine (lasts_at (by rw [hat p (by omega) (by omega)]; exact hq.2.1.ok)).2 ⟨x, by rw [hat p (by omega) (by omega)]; exact hxg, e, ?_⟩
    rw [hat p (by omega) (by omega), hq.2.2.2.2.2.1]
    exact hq.2.1.front.lines x hxg
  · show (L.resizeS n).lasts L.head = false
    have h0 : 0 ≤ L.head := by omega
    cases hl : (L.resizeS n).lasts L.head with
    | false => rfl
    | true =>
      obtain ⟨x, hx, e, -⟩ := (lasts_at (hseg _ (List.mem_of_getElem? (hfm.at h0))).1.ok).1 hl
      have := hpn _ _ (hfm.at h0) x hx
      omega
  · show runO (L.resizeS n).st0 (L.ops ++ [.map (L.map ++ [(L.next, n)])]) = (L.map ++ [(L.next, n)], L.trim, L.gone)
    have hst : (L.resizeS n).st0 = L.st0 := by
      unfold LogD.st0 LogD.resizeS
      dsimp only
      rw [List.take_append_of_le_length (by omega)]
    rw [hst, runO_snoc, h.run]
    rfl
  · rcases List.mem_append.1 (show y ∈ L.map ++ [(L.next, n)] from hy) with h1 | h1
    · exact h.froms y h1
    · rw [List.mem_singleton.1 h1]
      show L.next ≤ L.head
      omega
  · obtain ⟨T, hT, rfl⟩ := List.mem_map.1 (show S ∈ L.segs.map (sealTo (L.map.length : Int)) from hS)
    exact (hin T hT).2.2.2.2.2.1

end
end Go.Proofs.YtjbjjfndkpcciaaGreatDoor

/- What the laws ask of a log: each call, from where a law begins. Own work; no statement. -/
set_option linter.unusedSimpArgs false
set_option linter.unusedVariables false
namespace Go.Proofs.YtjbjjfndkpcciaaGreatDoor
open Go.RowKit Go.Shelf Go.Sort

/-- A record of the laws, as a value. -/
abbrev rv (site seq : Int) : Value := .agg #[.int .i64 site, .int .i64 seq, .slice none 0 0, .string ⟨#[107]⟩, .string ⟨#[]⟩]
theorem r6_calls (site seq : Int) (w : World) : Calls Tryz.prog 18 #[.int .i64 site, .int .i64 seq] w fun e w' => e = .returned (rv site seq) ∧ Go.RowKit.Below w.heap.size w w' := by
  go_enter Tryz.func18, Tryz.ntmps18
  go_wp2
  exact bodyPost_ret (v := .agg #[.int .i64 site, .int .i64 seq, .slice none 0 0, .string ⟨#[107]⟩, .string ⟨#[]⟩]) (by simp [results, Tryz.f18, go_sem]) rfl ⟨rfl, (Below.refl _ w).alloc (Nat.le_refl _) _⟩

theorem law_key {site seq : Int} : (lawR site seq).key.size ≤ 1099511627776 := (by decide : (1 : Nat) ≤ 1099511627776)
theorem law_val {site seq : Int} : (lawR site seq).val.size ≤ 1099511627776 := (by decide : (0 : Nat) ≤ 1099511627776)
theorem lawR_short {pos site seq : Int} (h0 : 0 ≤ pos) (h1 : pos ≤ 2147483647) (h2 : 0 ≤ site) (h3 : site < 8) (h4 : 1 ≤ seq) (h5 : seq ≤ 1048576) : (textE ⟨112, pos, lawR site seq⟩).size ≤ 80 := by
  have l1 := Lib.itoa_length_le pos (by omega) (by omega)
  have z1 : (⟨(Lib.itoa pos).toArray⟩ : ByteArray).size ≤ 21 := by simpa [ByteArray.size] using l1
  have hr := textR_size (r := lawR site seq) (by simp [lawR]; omega) (by simp [lawR]; omega) (by simp [lawR]; omega) (by simp [lawR]; omega) (fun x hx => by simp [lawR] at hx)
  have e1 : (lawR site seq).dep.length = 0 := rfl
  have e2 : (lawR site seq).key.size = 1 := rfl
  have e3 : (lawR site seq).val.size = 0 := rfl
  unfold textE
  dsimp only
  rw [if_pos rfl]
  simp only [ByteArray.size_append]
  have z2 : (⟨#[112]⟩ : ByteArray).size = 1 := rfl
  have z3 : (⟨#[32]⟩ : ByteArray).size = 1 := rfl
  omega

/-- At block p there lies a log; of what lay there when the law began nothing has turned. -/
def At (w0 w : World) (p : Nat) (L : LogD) : Prop := ∃ m : LogM, m.p = p ∧ IsLog w w0.heap.size m L ∧ Go.RowKit.Below w0.heap.size w0 w
theorem At.below {w0 w : World} {p : Nat} {L : LogD} (h : At w0 w p L) : Go.RowKit.Below w0.heap.size w0 w := let ⟨_, _, _, h⟩ := h; h
theorem At.keep {w0 w w' : World} {p : Nat} {L : LogD} (h : At w0 w p L) (hb : Go.RowKit.Below w.heap.size w w') : At w0 w' p L := by
  obtain ⟨m, h1, h2, h3⟩ := h
  exact ⟨m, h1, h2.keep hb, h3.trans (hb.mono h3.size)⟩
theorem At.goes {w0 w w' : World} {m : LogM} {L L' : LogD} (h : IsLog w w0.heap.size m L) (hb : Go.RowKit.Below w0.heap.size w0 w) (g : LogGoes w0.heap.size m L' w w') : At w0 w' m.p L' := by
  obtain ⟨m', h1, h2, h3, h4⟩ := g
  exact ⟨m', h1, h2, hb.trans (h.below hb.size h3)⟩
theorem At.turn {w0 w w' : World} {m : LogM} {L L' : LogD} (h : IsLog w w0.heap.size m L) (hb : Go.RowKit.Below w0.heap.size w0 w) (h2 : IsLog w' w0.heap.size m L') (h3 : Touch m.on w w') : At w0 w' m.p L' := ⟨m, rfl, h2, hb.trans (h.below hb.size h3)⟩
/-- Rows of numbers have not turned. -/
def Kept (w w' : World) : Prop := ∀ (k : Nat) (c : Array Value), w.heap[k]? = some (.cells c 3 (0, 0)) → w'.heap[k]? = w.heap[k]?
theorem Kept.row {w w' : World} (h : Kept w w') {B s : Nat} {v : Value} {n : Nat} {xs : List Value} (hr : w.ownsRow B 3 s v n xs) : w'.ownsRow B 3 s v n xs :=
  ownsRow_of_heap hr fun k hk => by
    rcases hr.2 with ⟨rfl, _⟩ | ⟨g, cap, cur, rfl, _, hg, _⟩
    · cases hk
    · obtain rfl : g = k := by simpa [Value.ownBlock] using hk
      exact h _ _ hg
theorem LogGoes.kept {w w' : World} {B : Nat} {m : LogM} {L L' : LogD} (h : IsLog w B m L) (g : LogGoes B m L' w w') : Kept w w' := by
  obtain ⟨m', -, -, h3, -⟩ := g
  exact fun k c hk => h3.block k (ltAt hk) fun hm => (h.firm k hm _ _ _ hk).2.1 rfl
theorem At.pow {w0 w : World} {p : Nat} {L : LogD} (h : At w0 w p L) (hp : Pow w0) : Pow w := hp.below h.below
theorem At.powF {w0 w : World} {p : Nat} {L : LogD} (h : At w0 w p L) (hp : Pow w0) : PowF w0.heap.size w := hp.from h.below

section
variable {w0 w : World} {p : Nat} {L : LogD} {f : Int → RecD} {N : Nat}

theorem new_at (w0 w : World) (k room : Int) (hb : Go.RowKit.Below w0.heap.size w0 w) (h1 : 1 ≤ k) (h2 : k ≤ 8) (h3 : 1 ≤ room) (h4 : room ≤ 1048576) :
    Calls Tryz.prog 11 #[.int .i64 k, .int .i64 room] w fun e w' => ∃ p, e = .returned (.tuple #[.pointer (some ⟨p, 0, none⟩), .int .i64 0]) ∧ At w0 w' p (newL k room) :=
  (logNew_calls k room w h1 h2 h3 h4).mono fun e w' ⟨m, he, hI, hB⟩ => ⟨m.p, he, m, rfl, ⟨Nat.le_trans hb.size hI.low, hI.own.lower hb.size, hI.n8, hI.segs.lower hb.size, hI.off, hI.val⟩, hb.trans (hB.mono hb.size)⟩
theorem head_at (h : At w0 w p L) : Calls Tryz.prog 20 #[.pointer (some ⟨p, 0, none⟩)] w fun e w' => e = .returned (.int .i64 L.head) ∧ w' = w := by
  obtain ⟨m, rfl, h2, h3⟩ := h
  exact logHead_calls _ m L w h2
theorem next_at (h : At w0 w p L) : Calls Tryz.prog 22 #[.pointer (some ⟨p, 0, none⟩)] w fun e w' => e = .returned (.int .i64 L.next) ∧ w' = w := by
  obtain ⟨m, rfl, h2, h3⟩ := h
  exact logNext_calls _ m L w h2
theorem down_at (h : At w0 w p L) : Calls Tryz.prog 36 #[.pointer (some ⟨p, 0, none⟩)] w fun e w' => e = .returned (.bool L.down) ∧ w' = w := by
  obtain ⟨m, rfl, h2, h3⟩ := h
  exact logDown_calls _ m L w h2
theorem epoch_at (h : At w0 w p L) : Calls Tryz.prog 29 #[.pointer (some ⟨p, 0, none⟩)] w fun e w' => e = .returned (.int .i64 (L.map.length : Int)) ∧ w' = w := by
  obtain ⟨m, rfl, h2, h3⟩ := h
  exact logEpoch_calls _ m L w h2
theorem stripes_at (h : At w0 w p L) (hi : L.Inv f N) : Calls Tryz.prog 28 #[.pointer (some ⟨p, 0, none⟩)] w fun e w' => e = .returned (.int .i64 (stripesM L.map)) ∧ ∃ n, w' = w.drewN n := by
  obtain ⟨m, rfl, h2, h3⟩ := h
  exact logStripes_calls _ m L w h2 (okMap_pos hi.fm.ok) (by have := (h2.few hi.fm).2; omega)

/-- A record is put at the next position. -/
theorem put_at (h : At w0 w p L) (hi : L.Inv f N) (hp : Pow w0) (site seq : Int) (hf : f L.next = lawR site seq) (s0 : 0 ≤ site) (s1 : site < 8) (q0 : 1 ≤ seq) (q1 : seq ≤ 1048576) (hn : L.next ≤ 2147483647) (hr : 81 * ((N : Int) + 1) ≤ L.room) (hN : N ≤ 1048575) (hm : (L.map.length : Int) ≤ 2147483647) :
    Calls Tryz.prog 17 #[.pointer (some ⟨p, 0, none⟩), .int .i64 L.next, rv site seq] w fun e w' => e = .returned (.int .i64 0) ∧ At w0 w' p (L.putS L.next (f L.next)) ∧ (L.putS L.next (f L.next)).Inv f (N + 1) ∧ L.putS L.next (f L.next) = { L with segs := L.segs.set (L.k L.next) (segPutS (L.at L.next) (L.map.length : Int) L.next (f L.next)), next := L.next + 1 } := by
  have hpw := h.pow hp
  obtain ⟨m, rfl, h2, h3⟩ := h
  have h0 : 0 ≤ L.next := by have := hi.fm.trim0; have := hi.fm.head0; have := hi.fm.next0; omega
  obtain ⟨e1, e2, e3⟩ := hi.put (by rw [hf]; exact lawR_good s0 s1 q0 q1) (by rw [hf]; exact back_lawR site seq) (by rw [hf]; exact lawR_short h0 hn s0 s1 q0 q1) hn hr hN hm
  have C := logPut_calls w0.heap.size m L L.next (rv site seq) (f L.next) w h2 h3.size hi.fm (fun _ => hi.up) (by rw [hf]; exact lawR_is site seq w) (by rw [hf]; simp [lawR]) (by rw [hf]; exact law_key) (by rw [hf]; exact law_val) hpw
  rw [e1] at C
  exact C.mono fun e w' ⟨he, hg⟩ => ⟨he, At.goes h2 h3 hg, e3, e2⟩
/-- Another position, or a log that is down. -/
theorem put_not (h : At w0 w p L) (hi : L.fm) (hu : L.down = false → L.up) (hp : Pow w0) (pos site seq : Int) (hf : L.putE pos (lawR site seq) ≠ 0) :
    Calls Tryz.prog 17 #[.pointer (some ⟨p, 0, none⟩), .int .i64 pos, rv site seq] w fun e w' => e = .returned (.int .i64 (L.putE pos (lawR site seq))) ∧ At w0 w' p L := by
  have hpw := h.pow hp
  obtain ⟨m, rfl, h2, h3⟩ := h
  have C := logPut_calls w0.heap.size m L pos (rv site seq) (lawR site seq) w h2 h3.size hi hu (lawR_is site seq w) (by simp [lawR]) law_key law_val hpw
  have e : L.putS pos (lawR site seq) = L := by unfold LogD.putS; rw [if_neg hf]
  rw [e] at C
  exact C.mono fun e w' ⟨he, hg⟩ => ⟨he, At.goes h2 h3 hg⟩

theorem sync_at (h : At w0 w p L) (hi : L.Inv f N) (k : Nat) (hk : k < 8) :
    Calls Tryz.prog 19 #[.pointer (some ⟨p, 0, none⟩), .int .i64 (k : Int)] w fun e w' => e = .returned (.bool (decide ((L.segs.getD k noSeg).D.lasts < (L.segs.getD k noSeg).D.lines.length))) ∧ ∃ h', At w0 w' p (L.syncS k h') ∧ (L.syncS k h').Inv f N := by
  obtain ⟨m, rfl, h2, h3⟩ := h
  obtain ⟨h', ha, hn, hI, hle⟩ := hi.sync hk
  have := hi.fm.next1
  have h0 : 0 ≤ L.head := by have := hi.fm.trim0; have := hi.fm.head0; omega
  exact (logSync_calls w0.heap.size m L k h' w h2 h3.size (h2.fit hi.fm) hi.down hi.up.ok hk h0 (by omega) (fun _ => ha) hn).mono fun e w' ⟨he, hg⟩ => ⟨he, h', At.goes h2 h3 hg, hI⟩

theorem crash_at (h : At w0 w p L) (hi : L.Inv f N) (v : Value) (keep : List Int) (hv : ∀ W, Go.RowKit.Below w0.heap.size w0 W → IsNums .i64 W v keep) (hl : keep.length ≤ 1099511627776) (hk : ∀ x ∈ keep, -9223372036854775808 ≤ x ∧ x ≤ 9223372036854775807) :
    Calls Tryz.prog 14 #[.pointer (some ⟨p, 0, none⟩), v] w fun e w' => e = .returned (.tuple #[]) ∧ At w0 w' p (L.crash keep) := by
  obtain ⟨m, rfl, h2, h3⟩ := h
  exact (logCrash_calls w0.heap.size m L v keep w h2 hi.fm.eight h3.size (fun W hW => hv W (h3.trans hW)) hl hk).mono fun e w' ⟨he, hI, hT⟩ => ⟨he, At.turn h2 h3 hI hT⟩

theorem recover_at (keep : List Int) (h : At w0 w p (L.crash keep)) (hi : L.Inv f N) (hp : Pow w0) (hr : 81 * ((N : Int) + 1) ≤ L.room) (hn : L.next ≤ 2147483647) :
    Calls Tryz.prog 21 #[.pointer (some ⟨p, 0, none⟩)] w fun e w' => e = .returned (.int .i64 0) ∧ ∃ h' Rs, At w0 w' p ⟨L.room, L.ops, Rs, L.map, false, L.trim, L.gone, h', h'⟩ ∧ LogD.Inv ⟨L.room, L.ops, Rs, L.map, false, L.trim, L.gone, h', h'⟩ f (N + 1) ∧ L.head ≤ h' ∧ h' ≤ L.next ∧ (∀ S ∈ Rs, S.D.lasts = S.D.lines.length) ∧ ((∀ (k : Nat) S, L.segs[k]? = some S → wholeN S.D (geti keep (k : Int)) = S.D.lasts) → h' = L.head) := by
  have hpw := h.powF hp
  obtain ⟨m, rfl, h2, h3⟩ := h
  obtain ⟨h', r1, r2, r3, r4, r5, r6, Rs, r7, r8, r9, r10⟩ := hi.recover keep hr hn
  have := hi.fm.next1
  have C := logRecover_calls w0.heap.size m (L.crash keep) h' w h2 h3.size (crash_fm hi keep) rfl rfl rfl hpw r1 r2 r3 (by omega) r6
  rw [r7] at C
  exact C.mono fun e w' ⟨he, hg⟩ => ⟨he, h', Rs, At.goes h2 h3 hg, r8, r4, r5, r9, r10⟩

theorem trim_at (h : At w0 w p L) (hi : L.Inv f N) (hp : Pow w0) (hd : ∀ p, (f p).dep.length ≤ 17592186044416) (pos : Int) (v : Value) (l : List Int) (hv : IsNums .i64 w v l) (hl : l.length ≤ 1099511627776) (h1 : L.trim ≤ pos) (h2' : pos ≤ L.head) (h3' : everyB eqB l (L.vecTo pos) = true) (h4 : InS (L.vecTo pos)) (h5 : (L.vecTo pos).length ≤ 8) (hw : (L.vecTo pos).take (writtenL (L.vecTo pos)) = L.vecTo pos) (he : writeE L.own (textO (.trim pos (L.vecTo pos))) = 0) (hr : 81 * ((N : Int) + 1) ≤ L.room) (hn : L.next ≤ 2147483647) :
    Calls Tryz.prog 32 #[.pointer (some ⟨p, 0, none⟩), .int .i64 pos, v] w fun e w' => e = .returned (.int .i64 0) ∧ ∃ h', At w0 w' p (L.trimS pos h') ∧ (L.trimS pos h').Inv f (N + 1) ∧ L.head ≤ h' ∧ Kept w w' := by
  have hpw := h.powF hp
  obtain ⟨m, rfl, h2, h3⟩ := h
  obtain ⟨hok, h', ha, hle, hI⟩ := hi.trimmed h1 h2' hr hn h4 h5 hw
  have := hi.fm.next1
  exact (logTrim_calls w0.heap.size m L pos h' v l _ w h2 h3.size hi.fm hi.up (hi.has hd) hv hl hpw h1 h2' h3' h4 h5 he hok ha (by omega)).mono fun e w' ⟨he, hg⟩ => ⟨he, h', At.goes h2 h3 hg, hI, ha.le, hg.kept h2⟩
theorem trim_not (h : At w0 w p L) (hi : L.Inv f N) (hd : ∀ p, (f p).dep.length ≤ 17592186044416) (pos : Int) (v : Value) (l : List Int) (hv : IsNums .i64 w v l) (hl : l.length ≤ 1099511627776) (hb : pos < L.trim ∨ L.head < pos ∨ everyB eqB l (L.vecTo pos) = false) :
    Calls Tryz.prog 32 #[.pointer (some ⟨p, 0, none⟩), .int .i64 pos, v] w fun e w' => e = .returned (.int .i64 1) ∧ At w0 w' p L := by
  obtain ⟨m, rfl, h2, h3⟩ := h
  exact (logTrim_bad w0.heap.size m L pos v l _ w h2 hi.fm hi.up (hi.has hd) hv hl hb).mono fun e w' ⟨he, hB⟩ => ⟨he, m, rfl, h2.keep hB, h3.trans (hB.mono h3.size)⟩
theorem trimmed_at (h : At w0 w p L) (hi : L.Inv f N) : Calls Tryz.prog 33 #[.pointer (some ⟨p, 0, none⟩)] w fun e w' => ∃ v, e = .returned (.tuple #[.int .i64 L.trim, v]) ∧ w'.ownsRow 0 3 1 v L.gone.length (L.gone.map (Value.int .i64)) ∧ Go.RowKit.Below w.heap.size w w' := by
  obtain ⟨m, rfl, h2, h3⟩ := h
  exact (logTrimmed_calls _ m L w h2 (by have := hi.fm.gone8; omega)).mono fun e w' ⟨v, he, ho, hB⟩ => ⟨v, he, ownsRow_low ho (Nat.zero_le _), hB⟩
theorem vec_at (h : At w0 w p L) (hi : L.Inv f N) (hd : ∀ p, (f p).dep.length ≤ 17592186044416) : Calls Tryz.prog 35 #[.pointer (some ⟨p, 0, none⟩)] w fun e w' => ∃ v, e = .returned v ∧ w'.ownsRow 0 3 1 v (L.vecTo L.head).length ((L.vecTo L.head).map (Value.int .i64)) ∧ Go.RowKit.Below w.heap.size w w' := by
  obtain ⟨m, rfl, h2, h3⟩ := h
  exact (logVec_calls _ m L _ w h2 hi.fm (fun _ => hi.up) (hi.has hd)).mono fun e w' ⟨v, he, ho, hB⟩ => ⟨v, he, ownsRow_low ho (Nat.zero_le _), hB⟩

theorem resize_at (h : At w0 w p L) (hi : L.Inv f N) (hp : Pow w0) (n : Int) (hh : L.head = L.next) (hn1 : 1 ≤ n) (hn8 : n ≤ 8) (hr : 81 * ((N : Int) + 1) ≤ L.room) (hn : L.next ≤ 2147483647) (hm : (L.map.length : Int) ≤ 2147483646) (he : writeE L.own (textO (.map (L.map ++ [(L.next, n)]))) = 0) :
    Calls Tryz.prog 27 #[.pointer (some ⟨p, 0, none⟩), .int .i64 n] w fun e w' => e = .returned (.int .i64 0) ∧ At w0 w' p (L.resizeS n) ∧ (L.resizeS n).Inv f (N + 1) ∧ (∀ S ∈ (L.resizeS n).segs, S.D.lasts = S.D.lines.length) ∧ Kept w w' := by
  have hpw := h.powF hp
  obtain ⟨m, rfl, h2, h3⟩ := h
  obtain ⟨r1, r2, r3, r4, r5⟩ := hi.resized hh hn1 hn8 hr hn hm
  exact (logResize_calls w0.heap.size m L n w h2 h3.size hi.fm hi.up hh hpw r1 r2 r3 he).mono fun e w' ⟨he, hg⟩ => ⟨he, At.goes h2 h3 hg, r4, r5, hg.kept h2⟩
theorem resize_not (h : At w0 w p L) (hi : L.Inv f N) (n : Int) (hh : L.head ≠ L.next) (hn1 : 1 ≤ n) (hn8 : n ≤ 8) :
    Calls Tryz.prog 27 #[.pointer (some ⟨p, 0, none⟩), .int .i64 n] w fun e w' => e = .returned (.int .i64 12) ∧ At w0 w' p L := by
  obtain ⟨m, rfl, h2, h3⟩ := h
  have hn0 := hi.fm.next0
  exact (logResize_state w0.heap.size m L n w h2 hi.fm hi.up hh (okMap_snoc hi.fm.ok (fun x hx => by have := hi.froms x hx; omega) hn1 hn8)).mono fun e w' ⟨he, hB⟩ => ⟨he, m, rfl, h2.keep hB, h3.trans (hB.mono h3.size)⟩

theorem get_at (h : At w0 w p L) (hf : L.fm) (hu : L.down = false → L.up) (pos : Int) (hp1 : pos ≤ 9223372036854775807) :
    Calls Tryz.prog 23 #[.pointer (some ⟨p, 0, none⟩), .int .i64 pos] w fun e w' => ∃ v, e = .returned (.tuple #[v, .int .i64 (L.get pos).2]) ∧ IsRec w' v (L.get pos).1 ∧ Go.RowKit.Below w.heap.size w w' := by
  obtain ⟨m, rfl, h2, h3⟩ := h
  exact (logGet_calls _ m L pos w h2 hf hu hp1).mono fun e w' ⟨v, he, ho, hB⟩ => ⟨v, he, ho.isRec, hB⟩
end

end Go.Proofs.YtjbjjfndkpcciaaGreatDoor

/- Which segments are synced, and where the head stands. Pure laws; the rows of a log. Own work; no statement. -/
set_option linter.unusedSimpArgs false
set_option linter.unusedVariables false
namespace Go.Proofs.YtjbjjfndkpcciaaGreatDoor
open Go.RowKit Go.Shelf Go.Sort

section
variable {L : LogD} {f : Int → RecD} {N : Nat}

/-- Just some segments are synced; of the others nothing is. -/
def Sy (L : LogD) (sy : Nat → Bool) : Prop := ∀ (i : Nat) S, L.segs[i]? = some S → S.D.lasts = if sy i = true then S.D.lines.length else 0
/-- Each line is a slot's. -/
def Full (L : LogD) : Prop := ∀ S ∈ L.segs, S.D.lines.length = S.slots.length

theorem lasts_sy (h : L.Inv f N) {sy : Nat → Bool} (hs : Sy L sy) {p : Int} (h1 : L.trim ≤ p) (h2 : p < L.next) : L.lasts p = sy (L.k p) := by
  have h0 := h.fm.trim0
  obtain ⟨x, hx, e⟩ := h.all p h1 h2
  have hm := h.seg (p := p) (by omega)
  have hl := hs _ _ (h.fm.at (pos := p) (by omega))
  have hln := (h.segs _ hm).1.front.lines x hx
  cases hb : sy (L.k p) with
  | true =>
    rw [hb, if_pos rfl] at hl
    exact (lasts_at (h.segs _ hm).1.ok).2 ⟨x, hx, e, by rw [hl]; exact hln⟩
  | false =>
    rw [hb, if_neg (by decide)] at hl
    cases hq : L.lasts p with
    | false => rfl
    | true =>
      obtain ⟨y, -, -, hy⟩ := (lasts_at (h.segs _ hm).1.ok).1 hq
      omega
theorem head_is (h : L.Inv f N) {sy : Nat → Bool} (hs : Sy L sy) {b : Int} (h1 : L.trim ≤ b) (h2 : b ≤ L.next) (h3 : ∀ p, L.trim ≤ p → p < b → sy (L.k p) = true) (h4 : b = L.next ∨ sy (L.k b) = false) : L.head = b := by
  refine adv_one h.adv ⟨h1, fun p p1 p2 => by rw [lasts_sy h hs p1 (by omega)]; exact h3 p p1 p2, ?_⟩
  rcases Int.lt_or_eq_of_le h2 with h5 | h5
  · rw [lasts_sy h hs h1 h5]
    rcases h4 with h4 | h4
    · omega
    · exact h4
  · exact h.stop (by omega)

theorem put_parts (h : L.Inv f N) (he : L.putE L.next (f L.next) = 0) : ∃ S', segPutS (L.at L.next) (L.map.length : Int) L.next (f L.next) = S' ∧ S'.D.lasts = (L.at L.next).D.lasts ∧ S'.D.lines.length = (L.at L.next).D.lines.length + 1 ∧ S'.slots.length = (L.at L.next).slots.length + 1 := by
  have he' : segPutE (L.at L.next) (L.map.length : Int) L.next (f L.next) = 0 := by
    unfold LogD.putE at he
    rw [if_neg (by rw [h.down]; decide), if_neg (by omega)] at he
    exact he
  have := segPut_is he'
  refine ⟨_, rfl, by rw [this], by rw [this]; simp, ?_⟩
  rw [this]
  dsimp only
  rw [insL_length]
  have hc := List.countP_le_length (p := fun y => decide (y < L.next)) (l := poss (L.at L.next))
  have hp : (poss (L.at L.next)).length = (L.at L.next).slots.length := by simp [poss]
  unfold belowN
  omega
theorem put_sy (h : L.Inv f N) (he : L.putE L.next (f L.next) = 0) {sy : Nat → Bool} (hs : Sy L sy) (hk : sy (L.k L.next) = false) : Sy (L.putS L.next (f L.next)) sy := by
  obtain ⟨S', e1, e2, e3, e4⟩ := put_parts h he
  have h0 : 0 ≤ L.next := by have := h.fm.trim0; have := h.fm.head0; have := h.fm.next0; omega
  intro i S hS
  have hS2 : (L.segs.set (L.k L.next) S')[i]? = some S := by
    unfold LogD.putS at hS
    rw [if_pos he, e1] at hS
    exact hS
  rcases set_get hS2 with ⟨rfl, rfl⟩ | ⟨-, h2⟩
  · have := hs _ _ (h.fm.at h0)
    rw [hk, if_neg (by decide)] at this ⊢
    rw [e2]
    exact this
  · exact hs i S h2
theorem put_full (h : L.Inv f N) (he : L.putE L.next (f L.next) = 0) (hf : Full L) : Full (L.putS L.next (f L.next)) := by
  obtain ⟨S', e1, e2, e3, e4⟩ := put_parts h he
  have h0 : 0 ≤ L.next := by have := h.fm.trim0; have := h.fm.head0; have := h.fm.next0; omega
  intro S hS
  have hS2 : S ∈ L.segs.set (L.k L.next) S' := by
    unfold LogD.putS at hS
    rw [if_pos he, e1] at hS
    exact hS
  rcases List.mem_or_eq_of_mem_set hS2 with h1 | rfl
  · exact hf S h1
  · rw [e3, e4, hf _ (h.seg h0)]
theorem sync_sy (h8 : L.segs.length = 8) {sy : Nat → Bool} (hs : Sy L sy) {k : Nat} (hk : k < 8) (h' : Int) : Sy (L.syncS k h') fun i => if i = k then true else sy i := by
  intro i S hS
  have hS2 : (L.segs.set k (syncD (L.segs.getD k noSeg)))[i]? = some S := hS
  rcases set_get hS2 with ⟨rfl, rfl⟩ | ⟨h1, h2⟩
  · rw [if_pos (by simp)]
    rfl
  · have := hs i S h2
    simpa [h1] using this
theorem sync_full {k : Nat} (h8 : L.segs.length = 8) (hk : k < 8) (hf : Full L) (h' : Int) : Full (L.syncS k h') := by
  intro S hS
  have hS2 : S ∈ L.segs.set k (syncD (L.segs.getD k noSeg)) := hS
  rcases List.mem_or_eq_of_mem_set hS2 with h1 | rfl
  · exact hf S h1
  · have hk' : k < L.segs.length := by omega
    rw [List.getD_eq_getElem?_getD, List.getElem?_eq_getElem hk']
    exact hf L.segs[k] (List.getElem_mem hk')
/-- Does something wait there? -/
theorem waits_sy (h : L.Inv f N) {sy : Nat → Bool} (hs : Sy L sy) (hf : Full L) {k : Nat} (hk : k < 8) : ((L.segs.getD k noSeg).D.lasts < (L.segs.getD k noSeg).D.lines.length) ↔ (sy k = false ∧ ∃ p, L.trim ≤ p ∧ p < L.next ∧ L.k p = k) := by
  have h8 := h.fm.eight
  obtain ⟨S, hS⟩ : ∃ S, L.segs[k]? = some S := ⟨_, List.getElem?_eq_getElem (by omega)⟩
  have hg : L.segs.getD k noSeg = S := by rw [List.getD_eq_getElem?_getD, hS]; rfl
  rw [hg]
  have hl := hs k S hS
  have hm := List.mem_of_getElem? hS
  have hfl := hf S hm
  constructor
  · intro hlt
    cases hb : sy k with
    | true =>
      rw [hb, if_pos rfl] at hl
      omega
    | false =>
      refine ⟨rfl, ?_⟩
      obtain ⟨x, hx⟩ : ∃ x, x ∈ S.slots := List.exists_mem_of_length_pos (by omega)
      obtain ⟨q1, q2, -⟩ := h.slots k S hS x hx
      have := ((h.segs S hm).1.ok.each x hx).2.2.1
      have ht := (h.segs S hm).2.2
      exact ⟨x.pos, by omega, q1, q2⟩
  · rintro ⟨hb, p, p1, p2, p3⟩
    rw [hb, if_neg (by decide)] at hl
    obtain ⟨x, hx, -⟩ := h.all p p1 p2
    have ha := h.fm.at (pos := p) (by have := h.fm.trim0; omega)
    rw [p3, hS] at ha
    cases ha
    have := List.length_pos_of_mem hx
    omega
theorem new_sy (k room : Int) : Sy (newL k room) fun _ => false := by
  intro i S hS
  have : S = emptyS ⟨room, [], 0⟩ := List.eq_of_mem_replicate (List.mem_of_getElem? (show (List.replicate 8 (emptyS ⟨room, [], 0⟩))[i]? = some S from hS))
  rw [this]
  rfl
theorem new_full (k room : Int) : Full (newL k room) := by
  intro S hS
  have : S = emptyS ⟨room, [], 0⟩ := List.eq_of_mem_replicate (show S ∈ List.replicate 8 (emptyS ⟨room, [], 0⟩) from hS)
  rw [this]
  rfl
/-- One epoch: a position's stripe. -/
theorem k_one {k : Int} (hm : L.map = [(0, k)]) (h1 : 1 ≤ k) (h8 : k ≤ 8) {p : Int} (h0 : 0 ≤ p) : L.k p = (p % k).toNat := by
  have hok : okMap [(0, k)] = true := by
    unfold okMap
    simp [okFrom]
    omega
  unfold LogD.k findM
  rw [hm, if_pos ⟨h0, hok⟩]
  dsimp only
  simp [epochM, h0]
/-- Some segments have all synced, whatever of the others. -/
def Sd (L : LogD) (sy : Nat → Prop) : Prop := ∀ (i : Nat) S, L.segs[i]? = some S → sy i → S.D.lasts = S.D.lines.length
theorem sync_sd {sy : Nat → Prop} (hs : Sd L sy) (k : Nat) (h' : Int) : Sd (L.syncS k h') fun i => i = k ∨ sy i := by
  intro i S hS hi
  have hS2 : (L.segs.set k (syncD (L.segs.getD k noSeg)))[i]? = some S := hS
  rcases set_get hS2 with ⟨rfl, rfl⟩ | ⟨h1, h2⟩
  · rfl
  · rcases hi with h3 | h3
    · exact absurd h3 h1
    · exact hs i S h2 h3
theorem sd_all (h : L.Inv f N) (hs : Sd L fun i => i < 8) : (∀ S ∈ L.segs, S.D.lasts = S.D.lines.length) ∧ L.head = L.next := by
  have h1 : ∀ S ∈ L.segs, S.D.lasts = S.D.lines.length := fun S hS => by
    obtain ⟨i, hi, rfl⟩ := List.mem_iff_getElem.1 hS
    exact hs i _ (List.getElem?_eq_getElem hi) (by rw [← h.fm.eight]; exact hi)
  exact ⟨h1, h.head_all h1⟩

/-- The rows of a log. -/
theorem rows_at {w0 w : World} {p : Nat} (h : At w0 w p L) (hi : L.Inv f N) (ht : 0 ≤ L.trim) (hd : ∀ p, (f p).dep.length ≤ 17592186044416) (hN : (L.next - L.trim).toNat ≤ 1048576) :
    Calls Tryz.prog 31 #[.pointer (some ⟨p, 0, none⟩), .int .i64 0] w fun e w' => ∃ lb, e = .returned (.func (.func 78) #[] lb) ∧ Go.RowKit.Below w.heap.size w w' ∧
      (∀ most : Nat, (L.head - L.trim).toNat ≤ most → most ≤ 1048576 → Calls Tryz.prog 30 #[.func (.func 78) #[] lb, .int .i64 (most : Int)] w' fun e w'' => ∃ va vb, e = .returned (.tuple #[va, vb, .bool true]) ∧
        IsNums .i64 w'' va ((List.range (L.head - L.trim).toNat).map fun (i : Nat) => L.trim + (i : Int)) ∧ IsRecs w'' vb ((List.range (L.head - L.trim).toNat).map fun (i : Nat) => f (L.trim + (i : Int))) ∧ Go.RowKit.Below w'.heap.size w' w'') := by
  obtain ⟨m, rfl, h2, h3⟩ := h
  have hh := hi.fm.head0
  have hn := hi.fm.next0
  have hx := hi.fm.next1
  have hr := hi.recs (n := (L.head - L.trim).toNat) (by omega)
  refine (logAll_calls _ m L 0 _ w h2 hi.fm (fun _ => hi.up) ht (hi.has hd) hN (by decide)).mono ?_
  rintro e w' ⟨b, c, v, pl, rfl, hA, hpl, hB⟩
  refine ⟨_, rfl, hB, fun most h4 h5 => ?_⟩
  refine (logRows_calls b c v pl L _ most w' hA hpl ht (by omega) (fun q hq => ?_) h4 h5).mono ?_
  · rw [hr] at hq
    obtain ⟨i, -, rfl⟩ := List.mem_map.1 hq
    exact hd _
  · rintro e w'' ⟨va, vb, he, h6, h7, h8⟩
    rw [hr] at h6 h7
    refine ⟨va, vb, he, ?_, ?_, h8⟩
    · simpa [List.map_map, Function.comp_def] using h6
    · simpa [List.map_map, Function.comp_def] using h7
end

end Go.Proofs.YtjbjjfndkpcciaaGreatDoor

/- The walks of the reference's Get, Covers, SameVec, CheckVec, Join, Meet. Own work; no statement. -/
set_option linter.unusedSimpArgs false
set_option linter.unusedVariables false
namespace Go.Proofs.YtjbjjfndkpcciaaGreatDoor
open Go.RowKit

set_option maxHeartbeats 400000 in
theorem refGet_calls (v : Value) (l : List Int) (i : Int) (w : World) (hv : IsNums .i64 w v l) (hl : l.length ≤ 1099511627776) :
    Calls Tryz.prog 113 #[v, .int .i64 i] w fun e w' => e = .returned (.int .i64 (geti l i)) ∧ w' = w := by
  by_cases h0 : i < 0
  · have e : geti l i = 0 := by unfold geti; rw [if_pos (.inl h0)]
    rw [e]
    obtain ⟨a, cap, rfl, -, -⟩ := hv
    go_enter Tryz.func113, Tryz.ntmps113
    go_wp2
    go_ret
    exact ⟨rfl, rfl⟩
  · by_cases h1 : (l.length : Int) ≤ i
    · have e : geti l i = 0 := by unfold geti; rw [if_pos (.inr h1)]
      rw [e]
      obtain ⟨a, cap, rfl, -, -⟩ := hv
      go_enter Tryz.func113, Tryz.ntmps113
      go_wp2
      go_ret
      exact ⟨rfl, rfl⟩
    · have e : geti l i = l.getD i.toNat 0 := by unfold geti; rw [if_neg (by omega)]
      rw [e]
      obtain ⟨n, rfl⟩ := Int.eq_ofNat_of_zero_le (show 0 ≤ i by omega)
      rcases hv.cases with ⟨rfl, -⟩ | ⟨b, o, cap, rfl, -, hc, hb, hcell⟩
      · exact absurd h1 (by simp)
      · have hcl := hcell n (by omega)
        have hlt : (n : Int) < (l.length : Int) := by omega
        clear hcell hv e
        go_enter Tryz.func113, Tryz.ntmps113
        go_wp2
        go_ret
        exact ⟨by simp, rfl⟩


set_option maxHeartbeats 400000 in
theorem refCheck_calls (v : Value) (l : List Int) (s : Int) (w : World) (hv : IsNums .i64 w v l) (hl : l.length ≤ 1099511627776) :
    Calls Tryz.prog 197 #[v, .int .i64 s] w fun e w' => e = .returned (.int .i64 (checkL l s)) ∧ w' = w := by
  obtain ⟨c, hc⟩ : ∃ c, checkL l s = c := ⟨_, rfl⟩
  rw [hc]
  have Hc := hide hc
  clear hc
  by_cases h1 : s < 1
  · obtain ⟨a1, cap, rfl, -, -⟩ := hv
    go_enter Tryz.func197, Tryz.ntmps197
    go_wp2
    go_ret
    exact ⟨ret_int (by rw [← Hc.out, checkL, if_pos (.inl h1)]), rfl⟩
  · by_cases h2 : 8 < s
    · obtain ⟨a1, cap, rfl, -, -⟩ := hv
      go_enter Tryz.func197, Tryz.ntmps197
      go_wp2
      go_ret
      exact ⟨ret_int (by rw [← Hc.out, checkL, if_pos (.inr h2)]), rfl⟩
    · by_cases h3 : s < (l.length : Int)
      · obtain ⟨a1, cap, rfl, -, -⟩ := hv
        go_enter Tryz.func197, Tryz.ntmps197
        go_wp2
        go_ret
        exact ⟨ret_int (by rw [← Hc.out, checkL, if_neg (by omega), if_pos h3]), rfl⟩
      · have e : checkN l = c := by rw [← Hc.out, checkL, if_neg (by omega), if_neg h3]
        clear Hc
        have E := hide e
        clear e
        rcases hv.cases with ⟨rfl, a1, cap, rfl⟩ | ⟨b, o, cap, rfl, -, hcap, hb, hcell⟩
        · have h3' : ¬ s < 0 := by omega
          go_enter Tryz.func197, Tryz.ntmps197
          go_wp2
          refine wp_loop_rounds 1 ?_
          rw [rounds_succ]
          go_wp2
          go_ret
          exact ⟨ret_int (by rw [← E.out]; rfl), rfl⟩
        · have Hcell := hide hcell
          clear hcell hv
          go_enter Tryz.func197, Tryz.ntmps197
          go_wp2
          go_loop [5] (fun i => ∃ k : Nat, i = .int .i64 (k : Int) ∧ k ≤ l.length ∧ checkN (l.drop k) = c) (fun i => l.length - (intOf i).toNat)
          case atStart => exact ⟨0, rfl, Nat.zero_le _, E.out⟩
          case round =>
            obtain ⟨k, rfl, hkn, hall⟩ := hrel
            replace hall := hide hall
            by_cases hk : k < l.length
            · have hlt' : (k : Int) < (l.length : Int) := by omega
              have hcl := Hcell.out k hk
              have hd := hide (checkN_drop l k hk)
              generalize l.getD k 0 = x at hcl hd
              by_cases hx : x < 0
              · go_wp2
                go_ret
                exact ⟨ret_int (by rw [← hall.out, hd.out, if_pos hx]), rfl⟩
              · by_cases hx2 : 1048576 < x
                · go_wp2
                  go_ret
                  exact ⟨ret_int (by rw [← hall.out, hd.out, if_neg (by omega), if_pos hx2]), rfl⟩
                · go_wp2
                  exact ⟨⟨k + 1, by go_num, by omega, by rw [← hall.out, hd.out, if_neg (by omega), if_neg (by omega)]⟩, by simp [intOf]; omega⟩
            · go_wp2
              go_ret
              exact ⟨ret_int (by rw [← hall.out, List.drop_of_length_le (by omega)]; rfl), rfl⟩


set_option maxHeartbeats 1000000 in
theorem refCovers_calls (va vb : Value) (a b : List Int) (w : World) (ha : IsNums .i64 w va a) (hb : IsNums .i64 w vb b) (hla : a.length ≤ 1099511627776) (hlb : b.length ≤ 1099511627776) :
    Calls Tryz.prog 84 #[va, vb] w fun e w' => e = .returned (.bool (everyB covB a b)) ∧ w' = w := by
  obtain ⟨a1, capa, rfl, -, -⟩ := id ha
  obtain ⟨b1, capb, rfl, -, -⟩ := id hb
  have Ha := hide ha
  have Hb := hide hb
  clear ha hb
  go_enter Tryz.func84, Tryz.ntmps84
  go_wp2
  go_loop [5] (fun i => ∃ k : Nat, i = .int .i64 (k : Int) ∧ k ≤ max a.length b.length ∧ ∀ j : Nat, j < k → covB (geti a j) (geti b j) = true) (fun i => max a.length b.length - (intOf i).toNat)
  case atStart => exact ⟨0, rfl, Nat.zero_le _, fun j h => absurd h (Nat.not_lt_zero j)⟩
  case round =>
    obtain ⟨k, rfl, hkn, hall⟩ := hrel
    replace hall := hide hall
    by_cases hk : k < max a.length b.length
    · have hcase : (k : Int) < (a.length : Int) ∨ (¬ (k : Int) < (a.length : Int) ∧ (k : Int) < (b.length : Int)) := by omega
      rcases hcase with hk1 | ⟨hk1, hk2⟩
      all_goals
        cases hf : covB (geti a k) (geti b k)
        · have hlt : geti a k < geti b k := by simpa [covB] using hf
          have hf' := hide hf
          clear hf
          go_wp2_with (first | (go_at_call_of 113 (Value.slice a1 a.length capa); refine (refGet_calls _ _ _ _ Ha.out hla).mono ?_; rintro e w' ⟨rfl, rfl⟩) | (go_at_call_of 113 (Value.slice b1 b.length capb); refine (refGet_calls _ _ _ _ Hb.out hlb).mono ?_; rintro e w' ⟨rfl, rfl⟩))
          go_ret
          refine ⟨?_, rfl⟩
          rw [everyB_no covB a b k hk (by rw [← geti_nat, ← geti_nat]; exact hf'.out)]
          rfl
        · have hlt : ¬ geti a k < geti b k := by simpa [covB] using hf
          have hf' := hide hf
          clear hf
          go_wp2_with (first | (go_at_call_of 113 (Value.slice a1 a.length capa); refine (refGet_calls _ _ _ _ Ha.out hla).mono ?_; rintro e w' ⟨rfl, rfl⟩) | (go_at_call_of 113 (Value.slice b1 b.length capb); refine (refGet_calls _ _ _ _ Hb.out hlb).mono ?_; rintro e w' ⟨rfl, rfl⟩))
          refine ⟨⟨k + 1, by go_num, by omega, fun j hj => ?_⟩, by simp [intOf]; omega⟩
          by_cases e : j = k
          · rw [e]; exact hf'.out
          · exact hall.out j (by omega)
    · have hk1 : ¬ (k : Int) < (a.length : Int) := by omega
      have hk2 : ¬ (k : Int) < (b.length : Int) := by omega
      go_wp2
      go_ret
      refine ⟨?_, rfl⟩
      rw [everyB_yes covB a b (fun i hi => by rw [← geti_nat, ← geti_nat]; exact hall.out i (by omega))]
      rfl

set_option maxHeartbeats 400000 in
theorem refSame_calls (va vb : Value) (a b : List Int) (w : World) (ha : IsNums .i64 w va a) (hb : IsNums .i64 w vb b) (hla : a.length ≤ 1099511627776) (hlb : b.length ≤ 1099511627776) :
    Calls Tryz.prog 34 #[va, vb] w fun e w' => e = .returned (.bool (everyB eqB a b)) ∧ w' = w := by
  rw [same_cov]
  cases h1 : everyB covB a b
  all_goals
    have c1 := hide (refCovers_calls va vb a b w ha hb hla hlb)
    have c2 := hide (refCovers_calls vb va b a w hb ha hlb hla)
    rw [h1] at c1
    generalize everyB covB b a = d at *
    clear ha hb h1
    go_enter Tryz.func34, Tryz.ntmps34
    go_wp2_with fail
    refine c1.out.mono ?_
    rintro e w' ⟨rfl, rfl⟩
    go_wp2_with fail
  · go_ret
    exact ⟨rfl, rfl⟩
  · refine c2.out.mono ?_
    rintro e w' ⟨rfl, rfl⟩
    go_wp2_with fail
    go_ret
    exact ⟨by simp, rfl⟩

theorem siteJoin_take (a b : List Int) (k : Nat) (h : k < max a.length b.length) : (bySiteL max a b).take (k + 1) = (bySiteL max a b).take k ++ [max (geti a k) (geti b k)] := by
  rw [take_snoc_getD _ k (by rw [bySiteL_length]; exact h), site_get (by decide), geti_nat, geti_nat]

theorem siteMeet_take (a b : List Int) (k : Nat) (h : k < max a.length b.length) : (bySiteL min a b).take (k + 1) = (bySiteL min a b).take k ++ [min (geti a k) (geti b k)] := by
  rw [take_snoc_getD _ k (by rw [bySiteL_length]; exact h), site_get (by decide), geti_nat, geti_nat]

end Go.Proofs.YtjbjjfndkpcciaaGreatDoor

/- The laws' known over logs. Own work; no statement. -/
set_option linter.unusedSimpArgs false
set_option linter.unusedVariables false
namespace Go.Proofs.YtjbjjfndkpcciaaGreatDoor
open Go.RowKit Go.Shelf Go.Sort

/-- The records of known. -/
def kf (p : Int) : RecD := if p = 2 then lawR 1 1 else lawR 0 (p + 1)
theorem kf_dep (p : Int) : (kf p).dep.length ≤ 17592186044416 := by
  unfold kf
  split <;> simp [lawR]

theorem nums_nil (W : World) : IsNums .i64 W (.slice none 0 0) [] := IsNums.of_row (World.ownsRow_nil W 0 3 1)
theorem nums_lit (W : World) (x : Int) : IsNums .i64 (W.alloc (.cells #[.int .i64 x] 3)) (.slice (some ⟨W.heap.size, 0, none⟩) 1 1) [x] := by
  refine ⟨_, 1, rfl, Nat.le_refl _, fun t ht => ⟨W.heap.size, 0, rfl, ?_⟩⟩
  have : t = 0 := by simpa using ht
  subst this
  have := cellsAt (World.alloc_heap_new W (.cells #[.int .i64 x] 3)) 0
  rw [Nat.zero_add, this]
  rfl
theorem whole_zero (D : DiskD) (k : Nat) : wholeN D (geti [] (k : Int)) = D.lasts := by
  have e : geti [] (k : Int) = 0 := by unfold geti; split <;> simp
  rw [e]
  unfold wholeN
  have : ∀ l : List ByteArray, keepN l 0 = 0 := fun l => by
    cases l with
    | nil => rfl
    | cons s r =>
      unfold keepN
      rw [if_neg (by omega)]
  rw [this]
  rfl

/-- A log of known. -/
structure KL (L : LogD) (c : Int) (N : Nat) : Prop where
  inv : L.Inv kf N
  next : L.next = c
  map : L.map = [(0, 2)]
  room : L.room = 1000
  ops : L.ops = []
  trim : L.trim = 0
  gone : L.gone = []

theorem kl_put {w0 w : World} {p : Nat} {L : LogD} {c : Int} {N : Nat} (h : At w0 w p L) (k : KL L c N) (hp : Pow w0) (site seq : Int) (hf : kf c = lawR site seq) (s0 : 0 ≤ site) (s1 : site < 8) (q0 : 1 ≤ seq) (q1 : seq ≤ 1048576) (hc : c ≤ 100) (hN : N ≤ 10) :
    Calls Tryz.prog 17 #[.pointer (some ⟨p, 0, none⟩), .int .i64 c, rv site seq] w fun e w' => e = .returned (.int .i64 0) ∧ ∃ L', At w0 w' p L' ∧ KL L' (c + 1) (N + 1) ∧ L'.head = L.head ∧ (∀ sy, Sy L sy → sy (L.k c) = false → Sy L' sy) ∧ (∀ sy, Sd L sy → ¬ sy (L.k c) → Sd L' sy) := by
  have hn := k.next
  subst hn
  refine (put_at h k.inv hp site seq hf s0 s1 q0 q1 (by omega) (by rw [k.room]; omega) (by omega) (by rw [k.map]; decide)).mono ?_
  rintro e w' ⟨he, hA, hI, hE⟩
  have he0 : L.putE L.next (kf L.next) = 0 := by
    refine Classical.byContradiction fun hne => ?_
    have h1 : L.putS L.next (kf L.next) = L := by unfold LogD.putS; rw [if_neg hne]
    rw [h1] at hE
    have := congrArg LogD.next hE
    dsimp only at this
    omega
  refine ⟨he, _, hA, ⟨hI, ?_, ?_, ?_, ?_, ?_, ?_⟩, ?_, fun sy h1 h2 => put_sy k.inv he0 h1 h2, fun sy h1 h2 i S hS hi => ?_⟩
  · rw [hE]
  · rw [hE]; exact k.map
  · rw [hE]; exact k.room
  · rw [hE]; exact k.ops
  · rw [hE]; exact k.trim
  · rw [hE]; exact k.gone
  · rw [hE]
  · rw [hE] at hS
    rcases set_get hS with ⟨rfl, -⟩ | ⟨-, h3⟩
    · exact absurd hi h2
    · exact h1 i S h3 hi

set_option maxRecDepth 100000 in
set_option maxHeartbeats 8000000 in
theorem logKnown_calls (w : World) (hp : Pow w) : Calls Tryz.prog 9 #[] w fun e w' => e = .returned (.bool true) ∧ Go.RowKit.Below w.heap.size w w' := by
  have kneg : (1 : Int) ≤ 2 := by decide
  go_enter Tryz.func9, Tryz.ntmps9
  go_wp2_with fail
  refine (new_at w w 2 1000 (Below.refl _ w) (by decide) (by decide) (by decide) (by decide)).mono ?_
  rintro e w1 ⟨p, rfl, A1⟩
  have K1 : Hid (KL (newL 2 1000) 0 0) := hide ⟨inv_new kf (by decide) (by decide), rfl, rfl, rfl, rfl, rfl, rfl⟩
  have S1 : Hid (Sy (newL 2 1000) fun _ => false) := hide (new_sy 2 1000)
  replace A1 := hide (A1)
  go_wp2_with fail
  refine (r6_calls 0 1 w1).mono ?_
  rintro e w2 ⟨rfl, b2⟩
  go_wp2_with fail
  refine (kl_put (A1.out.keep b2) K1.out hp 0 1 rfl (by decide) (by decide) (by decide) (by decide) (by decide) (by decide)).mono ?_
  rintro e w3 ⟨rfl, L3, A3, K3, H3, Y3, -⟩
  replace A3 := hide (A3)
  replace K3 := hide (K3)
  have S3 := hide (Y3 _ S1.out rfl)
  replace H3 := hide (H3)
  clear Y3 b2 A1 S1 K1
  go_wp2_with fail
  refine (r6_calls 0 2 w3).mono ?_
  rintro e w4 ⟨rfl, b4⟩
  go_wp2_with fail
  refine (kl_put (A3.out.keep b4) K3.out hp 0 2 rfl (by decide) (by decide) (by decide) (by decide) (by decide) (by decide)).mono ?_
  rintro e w5 ⟨rfl, L5, A5, K5, H5, Y5, -⟩
  replace A5 := hide (A5)
  replace K5 := hide (K5)
  have S5 := hide (Y5 _ S3.out rfl)
  replace H5 := hide ((H5.trans H3.out))
  clear Y5 b4 A3 S3 K3 H3
  go_wp2_with fail
  refine (r6_calls 1 1 w5).mono ?_
  rintro e w6 ⟨rfl, b6⟩
  go_wp2_with fail
  refine (kl_put (A5.out.keep b6) K5.out hp 1 1 rfl (by decide) (by decide) (by decide) (by decide) (by decide) (by decide)).mono ?_
  rintro e w7 ⟨rfl, L7, A7, K7, H7, Y7, -⟩
  replace A7 := hide (A7)
  replace K7 := hide (K7)
  have S7 := hide (Y7 _ S5.out rfl)
  replace H7 := hide ((H7.trans H5.out))
  clear Y7 b6 A5 S5 K5 H5
  go_wp2_with fail
  refine (r6_calls 1 2 w7).mono ?_
  rintro e w8 ⟨rfl, b8⟩
  have e8 : L7.putE 5 (lawR 1 2) = 1 := by
    unfold LogD.putE
    rw [if_neg (by rw [K7.out.inv.down]; decide), if_pos (by rw [K7.out.next]; decide)]
  go_wp2_with fail
  refine (put_not (A7.out.keep b8) K7.out.inv.fm (fun _ => K7.out.inv.up) hp 5 1 2 (by rw [e8]; decide)).mono ?_
  rw [e8]
  rintro e w9 ⟨rfl, A9⟩
  replace A9 := hide (A9)
  clear A7 b8
  go_wp2_with fail
  refine (head_at A9.out).mono ?_
  rw [show L7.head = 0 from H7.out]
  rintro e w10 ⟨rfl, rfl⟩
  go_wp2_with fail
  refine (sync_at A9.out K7.out.inv 0 (by decide)).mono ?_
  rintro e w11 ⟨rfl, h1, A11, I11⟩
  have K11 : KL (L7.syncS 0 h1) 3 3 := ⟨I11, K7.out.next, K7.out.map, K7.out.room, K7.out.ops, K7.out.trim, K7.out.gone⟩
  have S11 := sync_sy (k := 0) K7.out.inv.fm.eight S7.out (by decide) h1
  have hd11 : (L7.syncS 0 h1).head = 1 := by
    have hk : ∀ q : Int, 0 ≤ q → (L7.syncS 0 h1).k q = (q % 2).toNat := fun q h => k_one K11.map (by decide) (by decide) h
    refine head_is I11 S11 (by rw [K11.trim]; decide) (by rw [K11.next]; decide) (fun q q0 q1 => ?_) (.inr ?_)
    · rw [K11.trim] at q0
      have : q = 0 := by omega
      rw [this, hk 0 (by decide)]
      rfl
    · rw [hk 1 (by decide)]
      rfl
  generalize L7.syncS 0 h1 = L11 at *
  clear S11 S7 K7 H7 A9 I11
  replace A11 := hide A11
  replace K11 := hide K11
  replace hd11 := hide hd11
  go_wp2_with fail
  refine (head_at A11.out).mono ?_
  rw [hd11.out]
  rintro e w12 ⟨rfl, rfl⟩
  go_wp2_with fail
  refine (crash_at A11.out K11.out.inv (.slice none 0 0) [] (fun W _ => nums_nil W) (by decide) (fun x hx => by cases hx)).mono ?_
  rintro e w13 ⟨rfl, A13⟩
  replace A13 := hide A13
  clear A11
  go_wp2_with fail
  refine (r6_calls 0 2 w13).mono ?_
  rintro e w14 ⟨rfl, b14⟩
  have e14 : (L11.crash []).putE 1 (lawR 0 2) = 11 := rfl
  go_wp2_with fail
  refine (put_not (A13.out.keep b14) (crash_fm K11.out.inv []) (fun h => by cases h) hp 1 0 2 (by rw [e14]; decide)).mono ?_
  rw [e14]
  rintro e w15 ⟨rfl, A15⟩
  replace A15 := hide A15
  clear A13 b14
  go_wp2_with fail
  refine (recover_at [] A15.out K11.out.inv hp (by rw [K11.out.room]; decide) (by rw [K11.out.next]; decide)).mono ?_
  rintro e w16 ⟨rfl, h2, Rs, A16, I16, -, -, hall, hz⟩
  have hz2 : h2 = 1 := (hz fun k S _ => whole_zero S.D k).trans hd11.out
  have K16 : KL ⟨L11.room, L11.ops, Rs, L11.map, false, L11.trim, L11.gone, h2, h2⟩ 1 4 := ⟨I16, hz2, K11.out.map, K11.out.room, K11.out.ops, K11.out.trim, K11.out.gone⟩
  have S16 : Sd ⟨L11.room, L11.ops, Rs, L11.map, false, L11.trim, L11.gone, h2, h2⟩ fun i => i ≠ 1 := fun i S hS _ => hall S (List.mem_of_getElem? hS)
  clear hz hall I16
  generalize (⟨L11.room, L11.ops, Rs, L11.map, false, L11.trim, L11.gone, h2, h2⟩ : LogD) = L16 at *
  replace A16 := hide A16
  replace K16 := hide K16
  replace S16 := hide S16
  clear A15 K11 hd11 hz2
  go_wp2_with fail
  refine (next_at A16.out).mono ?_
  rw [K16.out.next]
  rintro e w17 ⟨rfl, rfl⟩
  go_wp2_with fail
  refine (r6_calls 0 2 w17).mono ?_
  rintro e w18 ⟨rfl, b18⟩
  go_wp2_with fail
  refine (kl_put (A16.out.keep b18) K16.out hp 0 2 rfl (by decide) (by decide) (by decide) (by decide) (by decide) (by decide)).mono ?_
  rintro e w19 ⟨rfl, L19, A19, K19, -, -, Y19⟩
  have S19 := Y19 _ S16.out (fun h => h (k_one K16.out.map (by decide) (by decide) (by decide)))
  replace A19 := hide A19
  replace K19 := hide K19
  replace S19 := hide S19
  clear Y19 b18 A16 S16 K16
  go_wp2_with fail
  refine (sync_at A19.out K19.out.inv 1 (by decide)).mono ?_
  rintro e w20 ⟨rfl, h3, A20, I20⟩
  have K20 : KL (L19.syncS 1 h3) 2 5 := ⟨I20, K19.out.next, K19.out.map, K19.out.room, K19.out.ops, K19.out.trim, K19.out.gone⟩
  have S20 := sync_sd S19.out 1 h3
  have hd20 : (L19.syncS 1 h3).head = 2 := by
    have := (sd_all I20 (fun i S hS hi => S20 i S hS (Classical.em (i = 1)))).2
    rw [this]
    exact K20.next
  generalize L19.syncS 1 h3 = L20 at *
  clear S20 S19 K19 A19 I20
  replace A20 := hide A20
  replace K20 := hide K20
  replace hd20 := hide hd20
  have hvec : ∀ q : Nat, (q : Int) ≤ 2 → L20.vecTo q = takeIn [] ((List.range q).map fun (i : Nat) => ((i : Int), kf i)) := fun q hq => by
    unfold LogD.vecTo
    rw [K20.out.gone, K20.out.inv.recs (by rw [K20.out.next, K20.out.trim]; omega), K20.out.trim]
    simp
  have hv2 : L20.vecTo 2 = [2] := (hvec 2 (by decide)).trans (by decide +kernel)
  have hv1 : L20.vecTo 1 = [1] := (hvec 1 (by decide)).trans (by decide +kernel)
  clear hvec
  replace hv2 := hide hv2
  replace hv1 := hide hv1
  go_wp2_with fail
  refine (vec_at A20.out K20.out.inv kf_dep).mono ?_
  rw [hd20.out, hv2.out]
  rintro e w21 ⟨vv, rfl, n21, b21⟩
  obtain ⟨va, vc, rfl⟩ := ownsRow_slice n21
  replace A21 := hide (A20.out.keep b21)
  replace n21 := hide n21
  clear A20 b21
  go_wp2_with fail
  have bl := box_below w21 (.cells #[.int .i64 1] 3)
  have hown : writeE L20.own (textO (.trim 1 (L20.vecTo 1))) = 0 := by
    rw [hv1.out]
    unfold LogD.own
    rw [K20.out.room, K20.out.ops]
    decide +kernel
  refine (trim_at (A21.out.keep bl) K20.out.inv hp kf_dep 1 _ [1] (nums_lit w21 1) (by decide) (by rw [K20.out.trim]; decide) (by rw [hd20.out]; decide) (by rw [hv1.out]; decide +kernel) (by rw [hv1.out]; intro x hx; rw [List.mem_singleton.1 hx]; decide) (by rw [hv1.out]; decide) (by rw [hv1.out]; decide +kernel) hown (by rw [K20.out.room]; decide) (by rw [K20.out.next]; decide)).mono ?_
  rintro e w22 ⟨rfl, h4, A22, I22, hle, kp22⟩
  have hle2 := I22.fm.next0
  have h42 : h4 = 2 := by
    have e1 : (L20.trimS 1 h4).next = 2 := K20.out.next
    have e2 : (L20.trimS 1 h4).head = h4 := rfl
    rw [hd20.out] at hle
    omega
  have g22 : (L20.trimS 1 h4).gone = [1] := hv1.out
  have o22 : (L20.trimS 1 h4).ops = [.trim 1 [1]] := by
    show L20.ops ++ [.trim 1 (L20.vecTo 1)] = _
    rw [K20.out.ops, hv1.out]
    rfl
  have m22 : (L20.trimS 1 h4).map = [(0, 2)] := K20.out.map
  have r22 : (L20.trimS 1 h4).room = 1000 := K20.out.room
  have x22 : (L20.trimS 1 h4).next = 2 := K20.out.next
  have d22 : (L20.trimS 1 h4).head = 2 := h42
  have t22 : (L20.trimS 1 h4).trim = 1 := rfl
  have n22 := kp22.row (own_below n21.out bl)
  generalize L20.trimS 1 h4 = L22 at *
  clear A21 n21 bl hown hle hle2 h42 kp22 K20 hd20 hv2 hv1
  replace A22 := hide A22
  replace I22 := hide I22
  replace n22 := hide n22
  have F22 := hide (And.intro g22 (And.intro o22 (And.intro m22 (And.intro r22 (And.intro x22 (And.intro d22 t22))))))
  clear g22 o22 m22 r22 x22 d22 t22
  go_wp2_with fail
  refine (trimmed_at A22.out I22.out).mono ?_
  rw [F22.out.1, F22.out.2.2.2.2.2.2]
  rintro e w23 ⟨vt, rfl, n23, b23⟩
  obtain ⟨ta, tc, rfl⟩ := ownsRow_slice n23
  have A23 := hide (A22.out.keep b23)
  have n22' := hide (own_below n22.out b23)
  replace n23 := hide n23
  clear A22 n22 b23
  go_wp2_with fail
  have hown : writeE L22.own (textO (.map (L22.map ++ [(L22.next, 3)]))) = 0 := by
    unfold LogD.own
    rw [F22.out.2.2.2.1, F22.out.2.1, F22.out.2.2.1, F22.out.2.2.2.2.1]
    decide +kernel
  refine (resize_at A23.out I22.out hp 3 (by rw [F22.out.2.2.2.2.2.1, F22.out.2.2.2.2.1]) (by decide) (by decide) (by rw [F22.out.2.2.2.1]; decide) (by rw [F22.out.2.2.2.2.1]; decide) (by rw [F22.out.2.2.1]; decide) hown).mono ?_
  rintro e w24 ⟨rfl, A24, I24, -, kp24⟩
  have n24 := hide (kp24.row n22'.out)
  have t24 := hide (kp24.row n23.out)
  have m24 : (L22.resizeS 3).map = [(0, 2), (2, 3)] := by
    show L22.map ++ [(L22.next, 3)] = _
    rw [F22.out.2.2.1, F22.out.2.2.2.2.1]
    rfl
  have tr24 : (L22.resizeS 3).trim = 1 := F22.out.2.2.2.2.2.2
  generalize L22.resizeS 3 = L24 at *
  clear A23 n22' n23 kp24 hown F22 I22
  replace A24 := hide A24
  replace I24 := hide I24
  replace m24 := hide m24
  replace tr24 := hide tr24
  go_wp2_with fail
  have g24 : L24.get 0 = (zeroR, 8) := I24.out.get_trim (by decide) (by rw [tr24.out]; decide)
  refine (get_at A24.out I24.out.fm (fun _ => I24.out.up) 0 (by decide)).mono ?_
  rw [g24]
  rintro e w25 ⟨vr, rfl, hvr, b25⟩
  obtain ⟨xa, xc, rfl, -⟩ := hvr
  have A25 := hide (A24.out.keep b25)
  have n25 := hide (own_below n24.out b25)
  have t25 := hide (own_below t24.out b25)
  clear A24 n24 t24 b25 g24
  go_wp2_with fail
  obtain ⟨W26, hW26⟩ : ∃ W26, w25.alloc (.cells #[.int .i64 zeroR.site, .int .i64 zeroR.seq, .slice xa zeroR.dep.length xc, .string zeroR.key, .string zeroR.val] 36) = W26 := ⟨_, rfl⟩
  have b26 : Go.RowKit.Below w25.heap.size w25 W26 := by rw [← hW26]; exact box_below _ _
  have s26 : W26.heap.size = w25.heap.size + 1 := by rw [← hW26]; simp
  rw [hW26]
  have bl26 := box_below W26 (.cells #[.int .i64 2] 3)
  have n26 := own_below n25.out (b26.trans (bl26.mono b26.size))
  have l26 := nums_lit W26 2
  rw [s26] at l26
  have A27 := hide (A25.out.keep (b26.trans (bl26.mono b26.size)))
  have t27 := hide (own_below t25.out (b26.trans (bl26.mono b26.size)))
  refine (refSame_calls _ _ [2] [2] _ (IsNums.of_row n26) l26 (by decide) (by decide)).mono ?_
  rw [show everyB eqB [2] [2] = true from rfl]
  rintro e w27 ⟨rfl, hw27⟩
  rw [← hw27] at A27 t27
  clear hw27 l26 n26 bl26 b26 s26 hW26 n25 t25 A25
  go_wp2_with fail
  have bl27 := box_below w27 (.cells #[.int .i64 1] 3)
  refine (refSame_calls _ _ [1] [1] _ (IsNums.of_row (own_below t27.out bl27)) (nums_lit w27 1) (by decide) (by decide)).mono ?_
  rw [show everyB eqB [1] [1] = true from rfl]
  rintro e w28 ⟨rfl, hw28⟩
  have A28 := hide (A27.out.keep bl27)
  rw [← hw28] at A28
  clear hw28 bl27 A27 t27
  go_wp2_with fail
  refine (stripes_at A28.out I24.out).mono ?_
  rw [m24.out, show stripesM [(0, 2), (2, 3)] = 3 from rfl]
  rintro e w29 ⟨rfl, n29, rfl⟩
  have A29 := hide (A28.out.keep (drewsB w28 n29))
  clear A28
  go_wp2_with fail
  refine (epoch_at A29.out).mono ?_
  rw [m24.out]
  rintro e w30 ⟨rfl, rfl⟩
  go_wp2_with fail
  refine (down_at A29.out).mono ?_
  rw [I24.out.down]
  rintro e w31 ⟨rfl, rfl⟩
  go_wp2_with fail
  go_ret
  exact ⟨rfl, A29.out.below⟩

end Go.Proofs.YtjbjjfndkpcciaaGreatDoor

/- Logs of one epoch, as the laws fill them. Own work; no statement. -/
set_option linter.unusedSimpArgs false
set_option linter.unusedVariables false
namespace Go.Proofs.YtjbjjfndkpcciaaGreatDoor
open Go.RowKit Go.Shelf Go.Sort

/-- The records of the laws' filled logs. -/
def sf (p : Int) : RecD := lawR 0 (p + 1)
theorem sf_dep (p : Int) : (sf p).dep.length ≤ 17592186044416 := by simp [sf, lawR]

/-- A log of one epoch. -/
structure ST (L : LogD) (k room c : Int) (N : Nat) : Prop where
  inv : L.Inv sf N
  next : L.next = c
  map : L.map = [(0, k)]
  room : L.room = room
  ops : L.ops = []
  trim : L.trim = 0
  gone : L.gone = []

theorem st_put {w0 w : World} {p : Nat} {L : LogD} {k room c : Int} {N : Nat} (h : At w0 w p L) (t : ST L k room c N) (hp : Pow w0) (hc : c ≤ 1000) (hN : 81 * ((N : Int) + 1) ≤ room) (hN2 : N ≤ 1000) :
    Calls Tryz.prog 17 #[.pointer (some ⟨p, 0, none⟩), .int .i64 c, rv 0 (c + 1)] w fun e w' => e = .returned (.int .i64 0) ∧ ∃ L', At w0 w' p L' ∧ ST L' k room (c + 1) (N + 1) ∧ (∀ sy, Sy L sy → sy (L.k c) = false → Sy L' sy) ∧ (Full L → Full L') := by
  have hn := t.next
  subst hn
  have h0 : 0 ≤ L.next := by have := t.inv.fm.trim0; have := t.inv.fm.head0; have := t.inv.fm.next0; omega
  refine (put_at h t.inv hp 0 (L.next + 1) rfl (by decide) (by decide) (by omega) (by omega) (by omega) (by rw [t.room]; omega) (by omega) (by rw [t.map]; simp)).mono ?_
  rintro e w' ⟨he, hA, hI, hE⟩
  have he0 : L.putE L.next (sf L.next) = 0 := by
    refine Classical.byContradiction fun hne => ?_
    have h1 : L.putS L.next (sf L.next) = L := by unfold LogD.putS; rw [if_neg hne]
    rw [h1] at hE
    have := congrArg LogD.next hE
    dsimp only at this
    omega
  refine ⟨he, _, hA, ⟨hI, ?_, ?_, ?_, ?_, ?_, ?_⟩, fun sy h1 h2 => put_sy t.inv he0 h1 h2, fun h1 => put_full t.inv he0 h1⟩
  · rw [hE]
  · rw [hE]; exact t.map
  · rw [hE]; exact t.room
  · rw [hE]; exact t.ops
  · rw [hE]; exact t.trim
  · rw [hE]; exact t.gone
theorem st_sync {L : LogD} {k room c : Int} {N : Nat} (t : ST L k room c N) {j : Nat} {h' : Int} (hI : (L.syncS j h').Inv sf N) : ST (L.syncS j h') k room c N := ⟨hI, t.next, t.map, t.room, t.ops, t.trim, t.gone⟩

/-- One epoch: does something wait there? -/
theorem st_waits {L : LogD} {k room c : Int} {N : Nat} (t : ST L k room c N) (h1 : 1 ≤ k) (h8 : k ≤ 8) {sy : Nat → Bool} (hs : Sy L sy) (hf : Full L) {j : Nat} (hj : j < 8) :
    decide ((L.segs.getD j noSeg).D.lasts < (L.segs.getD j noSeg).D.lines.length) = (!sy j && (decide ((j : Int) < k) && decide ((j : Int) < c))) := by
  have h := waits_sy t.inv hs hf hj
  rw [Bool.eq_iff_iff, decide_eq_true_iff, h, t.trim, t.next]
  simp only [Bool.and_eq_true, Bool.not_eq_true', decide_eq_true_eq]
  constructor
  · rintro ⟨q1, p, q2, q3, q4⟩
    rw [k_one t.map h1 h8 q2] at q4
    have e1 := Int.emod_nonneg p (show k ≠ 0 by omega)
    have e2 := Int.emod_lt_of_pos p (show 0 < k by omega)
    have e3 : p % k ≤ p := by
      rcases Int.lt_or_le p k with h | h
      · rw [Int.emod_eq_of_lt q2 h]; omega
      · omega
    exact ⟨q1, by omega, by omega⟩
  · rintro ⟨q1, q2, q3⟩
    refine ⟨q1, j, by omega, q3, ?_⟩
    rw [k_one t.map h1 h8 (by omega), Int.emod_eq_of_lt (by omega) q2]
    simp

theorem rem_nat {n m : Int} (h : 0 ≤ n) (hm : 0 < m) : ∃ k : Nat, Int.tmod n m = (k : Int) ∧ (k : Int) < m := by
  have h1 := Int.emod_nonneg n (show m ≠ 0 by omega)
  have h2 := Int.emod_lt_of_pos n hm
  refine ⟨(n % m).toNat, ?_, by omega⟩
  rw [Int.tmod_eq_emod_of_nonneg h]
  omega

/-- A log of whatever records. -/
structure PT (L : LogD) (f : Int → RecD) (mp : MapD) (room c : Int) (N : Nat) : Prop where
  inv : L.Inv f N
  next : L.next = c
  map : L.map = mp
  room : L.room = room
  trim : L.trim = 0
theorem pt_put {w0 w : World} {p : Nat} {L : LogD} {f : Int → RecD} {mp : MapD} {room c : Int} {N : Nat} (h : At w0 w p L) (t : PT L f mp room c N) (hp : Pow w0) (site seq : Int) (hf : f c = lawR site seq) (s0 : 0 ≤ site) (s1 : site < 8) (q0 : 1 ≤ seq) (q1 : seq ≤ 1048576) (hc : c ≤ 1000) (hm : mp.length ≤ 1000) (hN : 81 * ((N : Int) + 1) ≤ room) (hN2 : N ≤ 1000) :
    Calls Tryz.prog 17 #[.pointer (some ⟨p, 0, none⟩), .int .i64 c, rv site seq] w fun e w' => e = .returned (.int .i64 0) ∧ ∃ L', At w0 w' p L' ∧ PT L' f mp room (c + 1) (N + 1) ∧ L'.head = L.head ∧ L'.ops = L.ops ∧ L'.gone = L.gone := by
  have hn := t.next
  subst hn
  refine (put_at h t.inv hp site seq hf s0 s1 q0 q1 (by omega) (by rw [t.room]; omega) (by omega) (by rw [t.map]; omega)).mono ?_
  rintro e w' ⟨he, hA, hI, hE⟩
  refine ⟨he, _, hA, ⟨hI, ?_, ?_, ?_, ?_⟩, ?_, ?_, ?_⟩
  · rw [hE]
  · rw [hE]; exact t.map
  · rw [hE]; exact t.room
  · rw [hE]; exact t.trim
  · rw [hE]
  · rw [hE]
  · rw [hE]

end Go.Proofs.YtjbjjfndkpcciaaGreatDoor
