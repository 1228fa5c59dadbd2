/- Own work: the parts RD2, RS1, RS2 of the proof, laid together. -/
import Derived.Test.YtncmocmmkbmmjaaGreatDoorPartSegLines14
/- The reference's disks: Write, Crash, Cut. Own work; no statement. -/
set_option linter.unusedSimpArgs false
set_option linter.unusedVariables false
namespace Go.Proofs.YtncmocmmkbmmjaaGreatDoor
open Go.RowKit Go.Shelf

/-- What lies where a slice says, nil too. -/
def Src (w : World) (vx : Value) (m : Nat) (news : List Value) : Prop := (vx = .slice none 0 0 ∧ m = 0 ∧ news = []) ∨ ∃ ad c, vx = .slice (some ad) m c ∧ ∀ j u, news[j]? = some u → w.cell? (ad.add j) = some u

/-- A slice put behind a row of one's own. -/
theorem wpList_append_src {P : Program} {w : World} {ops : Array Oper} {rest : List Oper} {o : Oper} {a : Act} {Q : Exit → Act → World → Prop} (hgd : o.guard = none) (s x : Operand) (t : TypeId)
    (ho : o.op = .call { callee := .builtin .append, args := #[s, x], argTypes := #[t, t] })
    (base : Nat) (e : TypeId) (i : TypeInfo) (z : Value) (size bytes : Nat) (ht : P.underlying t = some (.slice e)) (hi : P.info? e = some i) (hz : i.zero = some z)
    (hsize : i.size = size) (hby : i.bytes = bytes) (hzs : z.cells.size = size) (hsz : 0 < size)
    (v : Value) (n : Nat) (xs : List Value) (hs : a.eval s = v) (hown : w.ownsRow base e size v n xs)
    (vx : Value) (m : Nat) (news : List Value) (hx : a.eval x = vx) (hsrc : Src w vx m news) (hl : news.length = m * size) (h1 : ∀ u ∈ news, u.oneCell' = true)
    (h63 : n + m ≤ maxLen) (hbytes : (n + m) * bytes ≤ 140737488355328) (hbase : base ≤ w.heap.size)
    (h : ∀ v' w', w'.ownsRow base e size v' (n + m) (xs ++ news) → w.grownBy w' v.ownBlock → wpList P ops Q rest (a.put o.dst v') w') : wpList P ops Q (o :: rest) a w := by
  rcases hsrc with ⟨rfl, rfl, rfl⟩ | ⟨ad, c, rfl, hc⟩
  · refine wpList_append_own_none hgd s x t ho base e i size ht hi v n xs hs hown hx (h v w (by rw [List.append_nil]; exact hown) (World.grownBy.refl _ _))
  · exact wpList_append_own w hgd s x t ho base e i z size bytes ht hi hz hsize hby hzs hsz v n xs hs hown ad m c news hx hl hc h1 h63 hbytes hbase fun v' w' h2 h3 _ => h v' w' h2 h3

/-- The first n of a row of texts. -/
theorem src_strs {w w' : World} {B n : Nat} {a : Option Addr} {cap cap' : Nat} {l : List ByteArray} (hr : w.ownsRow B 9 1 (.slice a l.length cap) l.length (l.map Value.string)) (hn : n ≤ l.length) (ha : a ≠ none) (hb : Below w.heap.size w w') : Src w' (.slice a n cap') n ((l.take n).map Value.string) := by
  rcases hr.2 with ⟨e, h0⟩ | ⟨g, cap1, cur, e, _⟩
  · simp only [Value.slice.injEq] at e
    exact absurd e.1 ha
  · simp only [Value.slice.injEq] at e
    obtain ⟨rfl, -, rfl⟩ := e
    refine .inr ⟨⟨g, 0, none⟩, cap', rfl, fun j u hu => ?_⟩
    have hj : j < n := by
      have := (List.getElem?_eq_some_iff.1 hu).1
      simp at this
      omega
    have hc := hr.cellAt j (by omega)
    rw [Addr.add_lit, Nat.zero_add]
    have hlt : (⟨g, j, none⟩ : Addr).block < w.heap.size := (hr.lt g rfl).2
    rw [hb.cell hlt, hc, ← hu]
    simp [hj]

/-- The row of a disk of the reference, put in anew. -/
theorem rd_put {w w1 : World} {B q : Nat} {g : Option Nat} {D : DiskD} {v : Value} {ls : List ByteArray} {n : Nat} (hd : IsRD w B q g D) (hB : B ≤ w.heap.size) (hb : Below w.heap.size w w1) (hr : w1.ownsRow w.heap.size 9 1 v ls.length (ls.map Value.string)) (hn : n ≤ ls.length) (hf : (bytesOf ls : Int) ≤ D.room) :
    IsRD ((w1.setCell ⟨q, 1, none⟩ v).setCell ⟨q, 2, none⟩ (.int .i64 (n : Int))) B q v.ownBlock ⟨D.room, ls, n⟩ ∧ Touch (onDisk q g) w ((w1.setCell ⟨q, 1, none⟩ v).setCell ⟨q, 2, none⟩ (.int .i64 (n : Int))) ∧ (∀ k, v.ownBlock = some k → g = some k ∨ w.heap.size ≤ k) := by
  obtain ⟨v0, hv, hp, hr0⟩ := hd.val
  have hq := hd.lt
  have hp1 := (hb.block q hq).trans hp
  refine ⟨⟨⟨hd.ok.low, hd.ok.high, hf, hn⟩, hd.low, v, rfl, ?_, ?_⟩, ((touch_new hb).set _ _ (.inl rfl)).set _ _ (.inl rfl), fun k e => .inr (hr.lt k e).1⟩
  · simpa using setAt (j := 2) (setAt (j := 1) hp1 v) (.int .i64 (n : Int))
  · have hr' : w1.ownsRow B 9 1 v ls.length (ls.map Value.string) := ownsRow_low hr hB
    refine ownsRow_of_heap hr' fun k e => ?_
    have hk := (hr.lt k e).1
    have hne' : ∀ j, k ≠ (⟨q, j, none⟩ : Addr).block := fun j e => by have : k = q := e; omega
    exact (Below.heap_setCell _ _ _ _ (hne' _)).trans (Below.heap_setCell _ _ _ _ (hne' _))
theorem rd_put1 {w w1 : World} {B q : Nat} {g : Option Nat} {D : DiskD} {v : Value} {ls : List ByteArray} (hd : IsRD w B q g D) (hB : B ≤ w.heap.size) (hb : Below w.heap.size w w1) (hr : w1.ownsRow w.heap.size 9 1 v ls.length (ls.map Value.string)) (hn : D.lasts ≤ ls.length) (hf : (bytesOf ls : Int) ≤ D.room) :
    IsRD (w1.setCell ⟨q, 1, none⟩ v) B q v.ownBlock ⟨D.room, ls, D.lasts⟩ ∧ Touch (onDisk q g) w (w1.setCell ⟨q, 1, none⟩ v) ∧ (∀ k, v.ownBlock = some k → g = some k ∨ w.heap.size ≤ k) := by
  obtain ⟨v0, hv, hp, hr0⟩ := hd.val
  have hq := hd.lt
  have hp1 := (hb.block q hq).trans hp
  refine ⟨⟨⟨hd.ok.low, hd.ok.high, hf, hn⟩, hd.low, v, rfl, ?_, ?_⟩, (touch_new hb).set _ _ (.inl rfl), fun k e => .inr (hr.lt k e).1⟩
  · simpa using setAt (j := 1) hp1 v
  · have hr' : w1.ownsRow B 9 1 v ls.length (ls.map Value.string) := ownsRow_low hr hB
    refine ownsRow_of_heap hr' fun k e => ?_
    have hk := (hr.lt k e).1
    have hne' : ∀ j, k ≠ (⟨q, j, none⟩ : Addr).block := fun j e => by have : k = q := e; omega
    exact Below.heap_setCell _ _ _ _ (hne' _)

set_option maxHeartbeats 1000000 in
theorem refFind_end (s : ByteArray) (w : World) (hs : s.size ≤ 1099511627776) :
    Calls Tryz.prog 36 #[.string s, .int .u8 10, .int .i64 0] w fun e w' => (∃ r : Int, e = .returned (.int .i64 r) ∧ (0 ≤ r ↔ hasEnd s = true)) ∧ w' = w := by
  have hin : ∀ j (hj : j < s.size), s[j] = 10 → hasEnd s = true := fun j hj h => by
    unfold hasEnd
    rw [decide_eq_true_eq, ← h]
    exact List.getElem_mem (l := s.data.toList) (n := j) (by rw [← Lib.size_eq]; exact hj)
  have hno : (∀ j (hj : j < s.size), s[j] ≠ 10) → ¬ hasEnd s = true := fun h he => by
    unfold hasEnd at he
    rw [decide_eq_true_eq] at he
    obtain ⟨j, hj, e⟩ := List.mem_iff_getElem.1 he
    exact h j (by rw [Lib.size_eq]; exact hj) e
  have Hin := hide hin
  have Hno := hide hno
  clear hin hno
  go_enter Tryz.func36, Tryz.ntmps36
  go_wp2_with fail
  go_loop [7] (fun x => ∃ k : Nat, k ≤ s.size ∧ x = .int .i64 (k : Int) ∧ ∀ j (hj : j < s.size), j < k → s[j] ≠ 10) (fun x => s.size - (intOf x).toNat)
  case atStart => exact ⟨0, Nat.zero_le _, rfl, fun j _ h2 => by omega⟩
  case round =>
    obtain ⟨k, hks, rfl, hall⟩ := hrel
    replace hall := hide hall
    by_cases hkl : k < s.size
    · have hlt : (k : Int) < (s.size : Int) := by omega
      by_cases hc : s[k] = 10
      · have hc' : (((s[k].toNat : Nat) : Int) == 10) = true := by rw [hc]; rfl
        have H := hide (Hin.out k hkl hc)
        clear hc hks
        go_wp2_with fail
        go_ret
        exact ⟨⟨_, rfl, by simp [H.out]⟩, rfl⟩
      · have hc' : (((s[k].toNat : Nat) : Int) == 10) = false := by
          rw [beq_eq_false_iff_ne]
          intro e
          exact hc (UInt8.toNat_inj.1 (by show s[k].toNat = 10; omega))
        replace hc := hide hc
        clear hks
        go_wp2_with fail
        refine ⟨⟨k + 1, by omega, by go_num, fun j hj h2 => ?_⟩, by simp [intOf]; omega⟩
        by_cases e : j = k
        · subst e
          exact hc.out
        · exact hall.out j hj (by omega)
    · have H := hide (Hno.out fun j hj => hall.out j hj (by omega))
      have hlt : ¬ (k : Int) < (s.size : Int) := by omega
      clear hkl hks
      go_wp2_with fail
      go_ret
      exact ⟨⟨_, rfl, by simp [H.out]⟩, rfl⟩

set_option maxRecDepth 100000 in
set_option maxHeartbeats 4000000 in
theorem refDiskWrite_calls (B p : Nat) (g : Option Nat) (D : DiskD) (s : ByteArray) (w : World) (hd : IsRD w B p g D) (hB : B ≤ w.heap.size) (hs : s.size ≤ 1099511627776) :
    Calls Tryz.prog 11 #[.pointer (some ⟨p, 0, none⟩), .string s] w fun e w' => e = .returned (.int .i64 (writeE D s)) ∧ ∃ g', IsRD w' B p g' (writeD D s) ∧ Touch (onDisk p g) w w' ∧ (∀ k, g' = some k → g = some k ∨ w.heap.size ≤ k) := by
  obtain ⟨i0, hi0, hz0, hz1, hz2⟩ := info_parts Tryz.info9
  have u1 := hide (fun w => refFind_end s w hs)
  have u2 := hide (fun w hd => refDiskUsed_calls B p g D w hd)
  have hl := hd.len
  have hk0 := hd.ok.low
  have hk1 := hd.ok.high
  have Hd := hide hd
  have HB := hide hB
  obtain ⟨a, cap, c0, c1, c2, hf, -, -, -⟩ := hd.open
  clear hd hB hf
  by_cases he : hasEnd s = true
  · have e0 : writeE D s = 2 := by unfold writeE; rw [if_pos he]
    have e1 : writeD D s = D := by unfold writeD; rw [e0, if_neg (by decide)]
    rw [e0, e1]
    have He := hide he
    clear e0 e1 he
    go_enter Tryz.func11, Tryz.ntmps11
    go_wp2_with fail
    refine (u1.out _).mono ?_
    rintro e w' ⟨⟨r, rfl, hr⟩, hw⟩
    subst hw
    have hr0 : 0 ≤ r := hr.2 He.out
    clear hr
    go_wp2
    go_ret
    exact ⟨rfl, g, Hd.out, Touch.refl _ _, fun k h => .inl h⟩
  · have He := hide he
    clear he
    by_cases hr : D.room - (bytesOf D.lines : Int) < (s.size : Int) + 1
    · have e0 : writeE D s = 6 := by unfold writeE; rw [if_neg He.out, if_pos hr]
      have e1 : writeD D s = D := by unfold writeD; rw [e0, if_neg (by decide)]
      rw [e0, e1]
      clear e0 e1
      go_enter Tryz.func11, Tryz.ntmps11
      go_wp2_with fail
      refine (u1.out _).mono ?_
      rintro e w' ⟨⟨r, rfl, hr'⟩, hw⟩
      subst hw
      have hr0 : ¬ 0 ≤ r := fun h => He.out (hr'.1 h)
      clear hr'
      go_wp2_with fail
      go_quiet (first | (go_at_call 37; refine Calls.quiet_of_same (u2.out _ (Hd.out.keep fun _ _ => rfl))))
      go_wp2
      go_ret
      exact ⟨rfl, g, Hd.out.new (drewsB _ _), touch_new (drewsB _ _), fun k h => .inl h⟩
    · have e0 : writeE D s = 0 := by unfold writeE; rw [if_neg He.out, if_neg hr]
      have e1 : writeD D s = ⟨D.room, D.lines ++ [s], D.lasts⟩ := by unfold writeD; rw [e0, if_pos rfl]
      rw [e0, e1]
      clear e0 e1
      go_enter Tryz.func11, Tryz.ntmps11
      go_wp2_with fail
      refine (u1.out _).mono ?_
      rintro e w' ⟨⟨r, rfl, hr'⟩, hw⟩
      subst hw
      have hr0 : ¬ 0 ≤ r := fun h => He.out (hr'.1 h)
      clear hr'
      go_wp2_with fail
      go_quiet (first | (go_at_call 37; refine Calls.quiet_of_same (u2.out _ (Hd.out.keep fun _ _ => rfl))))
      have hB0 := hide (drewsB w' nq)
      have Hd0 := hide (Hd.out.drews nq)
      have HB0 : Hid (B ≤ (w'.drewN nq).heap.size) := HB.out
      obtain ⟨W0, hW0⟩ : ∃ W0, w'.drewN nq = W0 := ⟨_, rfl⟩
      rw [hW0] at hB0 Hd0 HB0 ⊢
      clear hW0 c0 c1 c2 u1 u2 HB
      obtain ⟨a, cap, c0, c1, c2, hf, hg, hrow, hp⟩ := Hd0.out.open
      have hsrc : Src (W0.alloc (.cells #[] 9)) (.slice a D.lines.length cap) D.lines.length (D.lines.map Value.string) := by
        rcases hrow.2 with ⟨e, h0⟩ | ⟨g', cap', cur, e, _⟩
        · exact .inl ⟨by rw [e], h0, by rw [List.eq_nil_of_length_eq_zero h0]; rfl⟩
        · have := src_strs (n := D.lines.length) (cap' := cap) hrow (Nat.le_refl _) (by simp only [Value.slice.injEq] at e; rw [e.1]; simp) ((Below.refl _ W0).alloc (Nat.le_refl _) (.cells #[] 9))
          rwa [List.take_of_length_le (Nat.le_refl _)] at this
      have hrow0 : (W0.alloc (.cells #[] 9)).ownsRow W0.heap.size 9 1 (.slice (some ⟨W0.heap.size, 0, none⟩) 0 0) 0 [] := World.ownsRow_lit W0 #[] 0 (Nat.le_refl _) (by unfold maxLen; omega) rfl
      have d1 := fun o => Lib.cell?_alloc_some o c1
      have Hrow := hide hrow
      have hplt := ltAt hp
      clear hrow hp hf hg c0 c2
      go_wp2_with (at_builtin; refine wpList_append_src rfl _ _ 22 rfl W0.heap.size 9 i0 (.string ⟨#[]⟩) 1 16 Tryz.underlying22 hi0 hz0 hz1 hz2 rfl (by decide) _ _ _ rfl hrow0 _ D.lines.length _ rfl hsrc (by simp) (by intro u hu; obtain ⟨x, _, rfl⟩ := List.mem_map.1 hu; rfl) (by unfold maxLen; omega) (by omega) (by simp) ?_)
      intro v1 w1 hown1 hgrow1
      have hb1 : Below W0.heap.size W0 w1 := ((Below.refl _ W0).alloc (Nat.le_refl _) _).grown hgrow1 (by simp) (fun j hj => (hrow0.lt j hj).1)
      have hs1 := hb1.size
      clear hsrc hgrow1 d1 hrow0
      go_wp2_with (at_builtin; refine wpList_append_own _ rfl _ _ 22 rfl W0.heap.size 9 i0 (.string ⟨#[]⟩) 1 16 Tryz.underlying22 hi0 hz0 hz1 hz2 rfl (by decide) _ _ _ rfl (hown1.alloc _) ⟨w1.heap.size, 0, none⟩ 1 1 [.string s] rfl rfl (cell_one_new _ _ _) (by intro u hu; simp at hu; subst hu; rfl) (by unfold maxLen; omega) (by omega) (by simp; omega) ?_)
      intro v2 w2 hown2 hgrow2 _
      have hb2 : Below W0.heap.size W0 w2 := (hb1.alloc hb1.size _).grown hgrow2 (by simp; omega) (fun j hj => (hown1.lt j hj).1)
      have d1 : w2.cell? ⟨p, 1, none⟩ = some (.slice a D.lines.length cap) := (hb2.cell (p := ⟨p, 1, none⟩) hplt).trans c1
      have f1 : w2.frozen? ⟨p, 1, none⟩ = false := (hb2.frozen (p := ⟨p, 1, none⟩) hplt).trans (by obtain ⟨_, _, _, _, _, hf, _⟩ := Hd0.out.open; exact hf 1)
      obtain ⟨a2, cap2, rfl⟩ := ownsRow_slice hown2
      have hrs : w2.ownsRow W0.heap.size 9 1 (.slice a2 (D.lines.length + 1) cap2) (D.lines ++ [s]).length ((D.lines ++ [s]).map Value.string) := by simpa using hown2
      obtain ⟨I, T, G⟩ := rd_put1 Hd0.out HB0.out hb2 hrs (by have := Hd.out.ok.lasts; simp; omega) (by rw [bytesOf_append]; simp [bytesOf] at *; omega)
      clear hown1 hown2 hgrow2 hb1 c1
      have II := hide I
      have TT := hide T
      have GG := hide G
      clear I T G hb2 hrs
      go_wp2_with fail
      go_ret
      exact ⟨rfl, _, II.out, TT.out.of_touch hB0.out, fun k e => (GG.out k e).imp id fun h => Nat.le_trans hB0.out.size h⟩
set_option maxRecDepth 100000 in
set_option maxHeartbeats 4000000 in
theorem refDiskCut_calls (B p : Nat) (g : Option Nat) (D : DiskD) (n : Int) (w : World) (hd : IsRD w B p g D) (hB : B ≤ w.heap.size) :
    Calls Tryz.prog 45 #[.pointer (some ⟨p, 0, none⟩), .int .i64 n] w fun e w' => e = .returned (.int .i64 (cutE D n)) ∧ ∃ g', IsRD w' B p g' (cutD D n) ∧ Touch (onDisk p g) w w' ∧ (∀ k, g' = some k → g = some k ∨ w.heap.size ≤ k) := by
  obtain ⟨i0, hi0, hz0, hz1, hz2⟩ := info_parts Tryz.info9
  have hl := hd.len
  have hlast := hd.ok.lasts
  have Hd := hide hd
  have HB := hide hB
  obtain ⟨a, cap, c0, c1, c2, hf, -, hrow, hp⟩ := hd.open
  have Hrow := hide hrow
  have hplt := ltAt hp
  have f1 := hf 1
  have f2 := hf 2
  clear hd hB hf hrow hp
  by_cases h0 : n < 0
  · have e0 : cutE D n = 1 := by unfold cutE; rw [if_pos (.inl h0)]
    have e1 : cutD D n = D := by unfold cutD; rw [e0, if_neg (by decide)]
    rw [e0, e1]
    clear e0 e1
    go_enter Tryz.func45, Tryz.ntmps45
    go_wp2
    go_ret
    exact ⟨rfl, g, Hd.out, Touch.refl _ _, fun k h => .inl h⟩
  · by_cases h1 : (D.lines.length : Int) < n
    · have e0 : cutE D n = 1 := by unfold cutE; rw [if_pos (.inr h1)]
      have e1 : cutD D n = D := by unfold cutD; rw [e0, if_neg (by decide)]
      rw [e0, e1]
      clear e0 e1
      go_enter Tryz.func45, Tryz.ntmps45
      go_wp2
      go_ret
      exact ⟨rfl, g, Hd.out, Touch.refl _ _, fun k h => .inl h⟩
    · by_cases h2 : D.lasts < D.lines.length
      · have e0 : cutE D n = 12 := by unfold cutE; rw [if_neg (by omega), if_pos h2]
        have e1 : cutD D n = D := by unfold cutD; rw [e0, if_neg (by decide)]
        have h2I : (D.lasts : Int) < (D.lines.length : Int) := by omega
        rw [e0, e1]
        clear e0 e1
        go_enter Tryz.func45, Tryz.ntmps45
        go_wp2_with fail
        go_region
        go_wp2
        go_ret
        exact ⟨rfl, g, Hd.out.keep fun _ _ => rfl, ⟨rfl, rfl, rfl, Nat.le_refl _, fun _ _ _ => rfl⟩, fun k h => .inl h⟩
      · have e0 : cutE D n = 0 := by unfold cutE; rw [if_neg (by omega), if_neg h2]
        have e1 : cutD D n = ⟨D.room, D.lines.take n.toNat, n.toNat⟩ := by unfold cutD; rw [e0, if_pos rfl]
        have h2I : ¬ (D.lasts : Int) < (D.lines.length : Int) := by omega
        rw [e0, e1]
        obtain ⟨m, rfl⟩ := Int.eq_ofNat_of_zero_le (show 0 ≤ n by omega)
        rw [Int.toNat_natCast]
        have hm : m ≤ D.lines.length := by omega
        clear e0 e1
        go_enter Tryz.func45, Tryz.ntmps45
        go_wp2_with fail
        go_region
        have HdD := hide (Hd.out.drews 1)
        obtain ⟨W0, hW0⟩ : ∃ W0, w.drew = W0 := ⟨_, rfl⟩
        have hb0 := hide (show Below w.heap.size w w.drew from ⟨rfl, rfl, rfl, Nat.le_refl _, fun _ _ => rfl⟩)
        have Hd0 := hide (show IsRD w.drew B p g D from Hd.out.keep fun _ _ => rfl)
        have HB0 : Hid (B ≤ w.drew.heap.size) := HB.out
        have c1' : w.drew.cell? ⟨p, 1, none⟩ = _ := c1
        have c2' : w.drew.cell? ⟨p, 2, none⟩ = _ := c2
        have f1' : w.drew.frozen? ⟨p, 1, none⟩ = false := f1
        have f2' : w.drew.frozen? ⟨p, 2, none⟩ = false := f2
        have Hrow0 : Hid (w.drew.ownsRow B 9 1 (.slice a D.lines.length cap) D.lines.length (D.lines.map Value.string)) := Hrow.out
        have hplt' : p < w.drew.heap.size := hplt
        rw [hW0] at hb0 Hd0 HB0 c1' c2' f1' f2' Hrow0 hplt' ⊢
        clear hW0 c0 c1 c2 f1 f2 Hrow Hd HdD hplt HB
        have c1 := c1'
        have c2 := c2'
        have f1 := f1'
        have f2 := f2'
        have hplt := hplt'
        have hrow0 : (W0.alloc (.cells #[] 9)).ownsRow W0.heap.size 9 1 (.slice (some ⟨W0.heap.size, 0, none⟩) 0 0) 0 [] := World.ownsRow_lit W0 #[] 0 (Nat.le_refl _) (by unfold maxLen; omega) rfl
        clear c1' c2' f1' f2' hplt'
        cases a with
        | none =>
          rcases Hrow0.out.2 with ⟨e, h00⟩ | ⟨g', cap', cur, e, _⟩
          · simp only [Value.slice.injEq, true_and] at e
            obtain ⟨hl0, rfl⟩ := e
            obtain rfl : m = 0 := by omega
            have hln : D.lines = [] := List.eq_nil_of_length_eq_zero hl0
            have hsrc : Src (W0.alloc (.cells #[] 9)) (.slice none 0 0) 0 ((D.lines.take 0).map Value.string) := .inl ⟨rfl, rfl, rfl⟩
            rw [hl0] at c1
            have d1 := fun o => Lib.cell?_alloc_some o c1
            have hMc : ((D.lines.take 0).map Value.string).length = 0 * 1 := by simp
            go_wp2_with (at_builtin; refine wpList_append_src rfl _ _ 22 rfl W0.heap.size 9 i0 (.string ⟨#[]⟩) 1 16 Tryz.underlying22 hi0 hz0 hz1 hz2 rfl (by decide) _ _ _ rfl hrow0 _ 0 _ rfl hsrc hMc (by intro u hu; obtain ⟨x, _, rfl⟩ := List.mem_map.1 hu; rfl) (by unfold maxLen; omega) (by omega) (by simp) ?_)
            intro v1 w1 hown1 hgrow1
            have hown1' : w1.ownsRow W0.heap.size 9 1 v1 0 ((D.lines.take 0).map Value.string) := by simpa using hown1
            clear hown1
            have hb1 : Below W0.heap.size W0 w1 := ((Below.refl _ W0).alloc (Nat.le_refl _) _).grown hgrow1 (by simp) (fun j hj => (hrow0.lt j hj).1)
            have e1 := (hb1.cell (p := ⟨p, 1, none⟩) hplt).trans c1
            have l1 : w1.frozen? ⟨p, 1, none⟩ = false := (hb1.frozen (p := ⟨p, 1, none⟩) hplt).trans f1
            have e2 : w1.cell? ⟨p, 2, none⟩ = some (.int .i64 (D.lasts : Int)) := (hb1.cell (p := ⟨p, 2, none⟩) hplt).trans c2
            have l2 : w1.frozen? ⟨p, 2, none⟩ = false := (hb1.frozen (p := ⟨p, 2, none⟩) hplt).trans f2
            obtain ⟨a2, cap2, rfl⟩ := ownsRow_slice hown1'
            have hlt : (D.lines.take 0).length = 0 := by simp
            have hrs : w1.ownsRow W0.heap.size 9 1 (.slice a2 0 cap2) (D.lines.take 0).length ((D.lines.take 0).map Value.string) := by rw [hlt]; exact hown1'
            obtain ⟨I, T, G⟩ := rd_put (n := 0) Hd0.out HB0.out hb1 hrs (by omega) (by have := Hd0.out.ok.fits; have := bytesOf_take_le D.lines 0; omega)
            obtain ⟨W1, hW1⟩ : ∃ W1, w1.setCell ⟨p, 1, none⟩ (.slice a2 0 cap2) = W1 := ⟨_, rfl⟩
            rw [hW1] at I T
            have II := hide I
            have TT := hide T
            have GG := hide G
            have q2 : W1.cell? ⟨p, 2, none⟩ = some (.int .i64 (D.lasts : Int)) := by rw [← hW1]; exact (World.cell?_setCell_other _ _ _ _ (by simp)).trans e2
            have m2 : W1.frozen? ⟨p, 2, none⟩ = false := by rw [← hW1, World.frozen?_setCell]; exact l2
            clear I T G hrs hown1' hgrow1 hsrc hrow0 d1
            go_wp2_with fail
            go_ret
            exact ⟨rfl, _, II.out, TT.out.of_touch hb0.out, fun k e => (GG.out k e).imp id fun h => Nat.le_trans hb0.out.size h⟩
          · simp at e
        | some ad =>
          have hcl : D.lines.length ≤ cap := by
            rcases Hrow0.out.2 with ⟨e, h00⟩ | ⟨g', cap', cur, e, _, _, h3, _⟩
            · simp at e
            · simp only [Value.slice.injEq] at e
              omega
          have hadd : ad = ⟨ad.block, 0, none⟩ := by
            rcases Hrow0.out.2 with ⟨e, h00⟩ | ⟨g', cap', cur, e, _⟩
            · simp at e
            · simp only [Value.slice.injEq, Option.some.injEq] at e
              rw [e.1]
          obtain ⟨gb, hgb⟩ : ∃ gb, ad.block = gb := ⟨_, rfl⟩
          rw [hgb] at hadd
          subst hadd
          have hsrc : Src (W0.alloc (.cells #[] 9)) (.slice (some ⟨gb, 0, none⟩) m cap) m ((D.lines.take m).map Value.string) :=
            src_strs Hrow0.out hm (by simp) ((Below.refl _ W0).alloc (Nat.le_refl _) _)
          have d1 := fun o => Lib.cell?_alloc_some o c1
          have hMc : ((D.lines.take m).map Value.string).length = m * 1 := by simp; omega
          go_wp2_with (at_builtin; refine wpList_append_src rfl _ _ 22 rfl W0.heap.size 9 i0 (.string ⟨#[]⟩) 1 16 Tryz.underlying22 hi0 hz0 hz1 hz2 rfl (by decide) _ _ _ rfl hrow0 _ m _ rfl hsrc hMc (by intro u hu; obtain ⟨x, _, rfl⟩ := List.mem_map.1 hu; rfl) (by unfold maxLen; omega) (by omega) (by simp) ?_)
          intro v1 w1 hown1 hgrow1
          have hown1' : w1.ownsRow W0.heap.size 9 1 v1 m ((D.lines.take m).map Value.string) := by simpa using hown1
          clear hown1
          have hb1 : Below W0.heap.size W0 w1 := ((Below.refl _ W0).alloc (Nat.le_refl _) _).grown hgrow1 (by simp) (fun j hj => (hrow0.lt j hj).1)
          have e1 := (hb1.cell (p := ⟨p, 1, none⟩) hplt).trans c1
          have l1 : w1.frozen? ⟨p, 1, none⟩ = false := (hb1.frozen (p := ⟨p, 1, none⟩) hplt).trans f1
          have e2 : w1.cell? ⟨p, 2, none⟩ = some (.int .i64 (D.lasts : Int)) := (hb1.cell (p := ⟨p, 2, none⟩) hplt).trans c2
          have l2 : w1.frozen? ⟨p, 2, none⟩ = false := (hb1.frozen (p := ⟨p, 2, none⟩) hplt).trans f2
          obtain ⟨a2, cap2, rfl⟩ := ownsRow_slice hown1'
          have hlt : (D.lines.take m).length = m := by simp; omega
          have hrs : w1.ownsRow W0.heap.size 9 1 (.slice a2 m cap2) (D.lines.take m).length ((D.lines.take m).map Value.string) := by rw [hlt]; exact hown1'
          obtain ⟨I, T, G⟩ := rd_put (n := m) Hd0.out HB0.out hb1 hrs (by omega) (by have := Hd0.out.ok.fits; have := bytesOf_take_le D.lines m; omega)
          obtain ⟨W1, hW1⟩ : ∃ W1, w1.setCell ⟨p, 1, none⟩ (.slice a2 m cap2) = W1 := ⟨_, rfl⟩
          rw [hW1] at I T
          have II := hide I
          have TT := hide T
          have GG := hide G
          have q2 : W1.cell? ⟨p, 2, none⟩ = some (.int .i64 (D.lasts : Int)) := by rw [← hW1]; exact (World.cell?_setCell_other _ _ _ _ (by simp)).trans e2
          have m2 : W1.frozen? ⟨p, 2, none⟩ = false := by rw [← hW1, World.frozen?_setCell]; exact l2
          clear I T G hrs hown1' hgrow1 hsrc hrow0 d1
          go_wp2_with fail
          go_ret
          exact ⟨rfl, _, II.out, TT.out.of_touch hb0.out, fun k e => (GG.out k e).imp id fun h => Nat.le_trans hb0.out.size h⟩
end Go.Proofs.YtncmocmmkbmmjaaGreatDoor

/- The reference's segments in memory; at. Own work; no statement. -/
set_option linter.unusedSimpArgs false
set_option linter.unusedVariables false
namespace Go.Proofs.YtncmocmmkbmmjaaGreatDoor
open Go.RowKit Go.Shelf Go.Sort

/-- A slot, and the slice of its record's numbers. -/
structure RSl where
  x : SlotD
  vd : Value
def RSl.cells (s : RSl) : List Value := [.int .i64 s.x.pos, .int .i64 s.x.r.site, .int .i64 s.x.r.seq, s.vd, .string s.x.r.key, .string s.x.r.val, .int .i64 (s.x.line : Int)]

/-- The slots l lie in a row v of their own from B on, the numbers of each one's record as well. -/
structure IsRSl (w : World) (B : Nat) (v : Value) (l : List RSl) : Prop where
  row : w.ownsRow B 97 7 v l.length (l.flatMap RSl.cells)
  deps : ∀ s ∈ l, w.ownsRow B 3 1 s.vd s.x.r.dep.length (s.x.r.dep.map (Value.int .i64))

/-- At block p there lies a segment of the reference, over the disk at q. -/
structure IsRS (w : World) (B p q : Nat) (S : SegD) : Prop where
  ok : S.ok
  few : S.slots.length ≤ 1048576
  low : B ≤ p
  val : ∃ v l, l.map (·.x) = S.slots ∧ w.heap[p]? = some (.cells #[ptrV q, v, .int .i64 S.sealed, .int .i64 S.trim] 91 (0, 0)) ∧ IsRSl w B v l

theorem IsRSl.keep {w w' : World} {B : Nat} {v : Value} {l : List RSl} (h : IsRSl w B v l) (hk : ∀ (k : Nat) (c : Array Value) (t : TypeId), w.heap[k]? = some (.cells c t (0, 0)) → (t = 97 ∨ t = 3) → w'.heap[k]? = w.heap[k]?) : IsRSl w' B v l := by
  refine ⟨ownsRow_of_heap h.row fun k e => ?_, fun s hs => ownsRow_of_heap (h.deps s hs) fun k e => ?_⟩
  · rcases h.row.2 with ⟨rfl, _⟩ | ⟨g, cap, cur, rfl, _, hg, _⟩
    · cases e
    · obtain rfl : g = k := by simpa [Value.ownBlock] using e
      exact hk g _ _ hg (.inl rfl)
  · rcases (h.deps s hs).2 with ⟨e0, _⟩ | ⟨g, cap, cur, e0, _, hg, _⟩
    · rw [e0] at e; cases e
    · rw [e0] at e
      obtain rfl : g = k := by simpa [Value.ownBlock] using e
      exact hk g _ _ hg (.inr rfl)
theorem IsRSl.below {w w' : World} {B : Nat} {v : Value} {l : List RSl} (h : IsRSl w B v l) (hb : Below w.heap.size w w') : IsRSl w' B v l := h.keep fun k _ _ hk _ => hb.block k (ltAt hk)
theorem IsRS.lt {w : World} {B p q : Nat} {S : SegD} (h : IsRS w B p q S) : p < w.heap.size := by
  obtain ⟨v, l, -, hp, -⟩ := h.val
  exact ltAt hp
theorem IsRS.keep {w w' : World} {B p q : Nat} {S : SegD} (h : IsRS w B p q S) (hb : Below w.heap.size w w') : IsRS w' B p q S := by
  obtain ⟨v, l, hl, hp, hr⟩ := h.val
  exact ⟨h.ok, h.few, h.low, v, l, hl, keepB hp hb, hr.below hb⟩
theorem IsRS.drews {w : World} {B p q : Nat} {S : SegD} (h : IsRS w B p q S) (n : Nat) : IsRS (w.drewN n) B p q S := h.keep (drewsB w n)
/-- It stands where blocks of none of its types are written. -/
theorem IsRS.touch {w w' : World} {B p q : Nat} {S : SegD} {T : Nat → Prop} (h : IsRS w B p q S) (t : Touch T w w') (hT : ∀ k c ty f, T k → w.heap[k]? = some (.cells c ty f) → ty ≠ 91 ∧ ty ≠ 97 ∧ ty ≠ 3) : IsRS w' B p q S := by
  obtain ⟨v, l, hl, hp, hr⟩ := h.val
  refine ⟨h.ok, h.few, h.low, v, l, hl, (t.block p (ltAt hp) fun e => (hT p _ _ _ e hp).1 rfl).trans hp, hr.keep fun k c ty hk hty => t.block k (ltAt hk) fun e => ?_⟩
  obtain ⟨-, h2, h3⟩ := hT k _ _ _ e hk
  rcases hty with e' | e'
  · exact h2 e'
  · exact h3 e'

theorem flat7 : ∀ (pl : List RSl) (k j : Nat) (h : k < pl.length), j < 7 → (pl.flatMap RSl.cells)[k * 7 + j]? = (pl[k]).cells[j]?
  | [], _, _, h, _ => absurd h (by simp)
  | p :: pl, 0, j, _, hj => by
    rw [List.flatMap_cons, List.getElem?_append_left (by simp [RSl.cells]; omega)]
    simp
  | p :: pl, k + 1, j, h, hj => by
    rw [List.flatMap_cons, List.getElem?_append_right (by simp [RSl.cells]; omega)]
    have e : (k + 1) * 7 + j - p.cells.length = k * 7 + j := by simp [RSl.cells]; omega
    rw [e, flat7 pl k j (by simpa using h) hj]
    simp

/-- The k-th slot's cells. -/
theorem IsRSl.cell {w : World} {B : Nat} {a : Option Addr} {n cap : Nat} {l : List RSl} (h : IsRSl w B (.slice a n cap) l) {k : Nat} (hk : k < l.length) : ∃ g, a = some ⟨g, 0, none⟩ ∧ ∀ j, j < 7 → w.cell? ⟨g, k * 7 + j, none⟩ = (l[k]).cells[j]? := by
  rcases h.row.2 with ⟨e1, e2⟩ | ⟨g, cap', cur, e1, -⟩
  · omega
  · have hr := h.row
    simp only [Value.slice.injEq] at e1
    obtain ⟨rfl, rfl, rfl⟩ := e1
    refine ⟨g, rfl, fun j hj => ?_⟩
    rw [hr.cellAt (k * 7 + j) (by omega)]
    exact flat7 l k j hk hj

theorem below_prefix (S : SegD) (hok : S.ok) (pos : Int) (k : Nat) (hk : k ≤ S.slots.length) (h1 : ∀ x ∈ S.slots.take k, x.pos < pos) (h2 : ∀ (h : k < S.slots.length), ¬ S.slots[k].pos < pos) : belowN (poss S) pos = k := by
  refine belowN_at (poss S) pos k (by rw [poss_length]; exact hk) (fun t ht => ?_) (fun t ht ht2 => ?_)
  · rw [poss_get S t (by omega)]
    exact h1 _ (List.mem_iff_getElem.2 ⟨t, by simp; omega, by simp⟩)
  · rw [poss_length] at ht2
    rw [poss_get S t ht2]
    have h3 := h2 (by omega)
    rcases Nat.lt_or_eq_of_le ht with h4 | h4
    · have := List.pairwise_iff_getElem.1 hok.rising k t (by omega) ht2 h4
      omega
    · subst h4
      omega

set_option maxHeartbeats 4000000 in
set_option maxRecDepth 100000 in
theorem refAt_calls (B p q : Nat) (S : SegD) (pos : Int) (w : World) (hd : IsRS w B p q S) :
    Calls Tryz.prog 71 #[.pointer (some ⟨p, 0, none⟩), .int .i64 pos] w fun e w' => e = .returned (.tuple #[.int .i64 (belowN (poss S) pos : Nat), .bool (isAt (poss S) pos)]) ∧ ∃ n, w' = w.drewN n := by
  obtain ⟨v, l, hl, hp, hr⟩ := hd.val
  have hok := hd.ok
  have hfew := hd.few
  have hll : l.length = S.slots.length := by rw [← hl]; simp
  obtain ⟨a, cap, rfl⟩ := ownsRow_slice hr.row
  obtain ⟨c0, c1, c2, c3, -, -, -, -⟩ := cells4 hp
  rw [hll] at c1
  have hcell : ∀ k (hk : k < S.slots.length), ∃ g, a = some ⟨g, 0, none⟩ ∧ w.cell? ⟨g, k * 7, none⟩ = some (.int .i64 S.slots[k].pos) := by
    intro k hk
    obtain ⟨g, e, hg⟩ := hr.cell (k := k) (by omega)
    refine ⟨g, e, ?_⟩
    have := hg 0 (by omega)
    rw [Nat.add_zero] at this
    rw [this]
    have hx : l[k].x = S.slots[k] := by simp [← hl]
    simp [RSl.cells, hx]
  have Hc := hide hcell
  have Hok := hide hok
  clear hd hp hr hcell hok hl hll c0 c2 c3
  go_enter Tryz.func71, Tryz.ntmps71
  go_wp2_with fail
  go_loopw [6] (fun kv wr => ∃ (k : Nat), kv = .int .i64 (k : Int) ∧ k ≤ S.slots.length ∧ (∀ x ∈ S.slots.take k, x.pos < pos) ∧ wr = w) (fun kv _ => S.slots.length - (intOf kv).toNat)
  case atStart => exact ⟨0, rfl, Nat.zero_le _, fun x hx => (by simp at hx), rfl⟩
  case round =>
    obtain ⟨k, rfl, hk, hpre, rfl⟩ := hrel
    by_cases hlt : k < S.slots.length
    · have hltI : (k : Int) < (S.slots.length : Int) := by omega
      obtain ⟨g, rfl, hc⟩ := Hc.out k hlt
      by_cases hpos : S.slots[k].pos < pos
      · have hnext : Hid (∀ x ∈ S.slots.take (k + 1), x.pos < pos) := by
          intro x hx
          rw [List.take_succ_eq_append_getElem hlt] at hx
          rcases List.mem_append.1 hx with h1 | h1
          · exact hpre x h1
          · obtain rfl : x = S.slots[k] := by simpa using h1
            exact hpos
        generalize S.slots[k].pos = y at *
        have Hpre := hide hpre
        clear hpre
        go_wp2_with fail
        exact ⟨⟨k + 1, by go_num, by omega, hnext.out, by first | rfl | trivial⟩, by simp [intOf]; omega⟩
      · have hb := below_prefix S Hok.out pos k hk hpre (fun _ => hpos)
        have hi := isAt_slot S pos
        rw [hb, List.getElem?_eq_getElem hlt] at hi
        dsimp only at hi
        generalize S.slots[k].pos = y at *
        have hposI : ¬ y < pos := hpos
        have Hb := hide hb
        have Hi := hide hi
        clear hb hi hpre Hc Hok
        go_wp2_with fail
        go_quiet (fail)
        go_wp2_with fail
        go_ret2
        exact ⟨by rw [Hb.out, Hi.out]; rfl, _, rfl⟩
    · obtain rfl : k = S.slots.length := by omega
      have hb := below_prefix S Hok.out pos S.slots.length hk hpre (fun h => absurd h (by omega))
      have hi := isAt_slot S pos
      rw [hb, List.getElem?_eq_none (Nat.le_refl _)] at hi
      dsimp only at hi
      have Hb := hide hb
      have Hi := hide hi
      clear hb hi hpre Hc Hok
      go_wp2_with fail
      go_quiet (fail)
      go_wp2_with fail
      go_ret2
      exact ⟨by rw [Hb.out, Hi.out]; rfl, _, rfl⟩

end Go.Proofs.YtncmocmmkbmmjaaGreatDoor

/- The reference's segments: put, above, below. Own work; no statement. -/
set_option linter.unusedSimpArgs false
set_option linter.unusedVariables false
namespace Go.Proofs.YtncmocmmkbmmjaaGreatDoor
open Go.RowKit Go.Shelf Go.Sort

theorem Tryz.info97 : (Tryz.prog.info? 97).map (fun i => (i.zero, i.size, i.bytes)) = some (some (.agg #[.int .i64 0, .int .i64 0, .int .i64 0, .slice none 0 0, .string ⟨#[]⟩, .string ⟨#[]⟩, .int .i64 0]), 7, 88) := by kernel_rfl

theorem rsl_one {s : RSl} {a : Option Addr} {n c : Nat} (h : s.vd = .slice a n c) : ∀ u ∈ s.cells, u.oneCell' = true := by
  intro u hu
  simp only [RSl.cells, h, List.mem_cons, List.not_mem_nil, or_false] at hu
  rcases hu with rfl | rfl | rfl | rfl | rfl | rfl | rfl <;> rfl
theorem rsls_one {w : World} {B : Nat} {v : Value} {l l' : List RSl} (h : IsRSl w B v l) (hs : ∀ s ∈ l', s ∈ l) : ∀ u ∈ l'.flatMap RSl.cells, u.oneCell' = true := by
  intro u hu
  obtain ⟨s, h1, h2⟩ := List.mem_flatMap.1 hu
  obtain ⟨a, c, e⟩ := ownsRow_slice (h.deps s (hs s h1))
  exact rsl_one e u h2
theorem flat_len (l : List RSl) : (l.flatMap RSl.cells).length = l.length * 7 := by
  induction l with
  | nil => rfl
  | cons x r ih => rw [List.flatMap_cons, List.length_append, ih]; simp [RSl.cells]; omega

/-- A segment of the reference gets another row of slots. -/
theorem rs_put {w w1 : World} {B p q : Nat} {S : SegD} {v : Value} {l : List RSl} {sl : List SlotD} (hd : IsRS w B p q S) (hb : Below w.heap.size w w1) (hr : IsRSl w1 B v l) (hl : l.map (·.x) = sl) (hok : SegD.ok { S with slots := sl }) (hfew : sl.length ≤ 1048576) :
    IsRS (w1.setCell ⟨p, 1, none⟩ v) B p q { S with slots := sl } ∧ Touch (fun k => k = p) w (w1.setCell ⟨p, 1, none⟩ v) := by
  obtain ⟨v0, l0, -, hp, -⟩ := hd.val
  have hp1 := keepB hp hb
  refine ⟨⟨hok, hfew, hd.low, v, l, hl, by simpa using setAt (j := 1) hp1 v, hr.keep fun k c ty hk hty => Below.heap_setCell _ _ _ _ fun e => ?_⟩, (touch_new hb).set _ _ rfl⟩
  have e' : k = p := e
  subst e'
  rw [hp1] at hk
  simp only [Option.some.injEq, Obj.cells.injEq] at hk
  rcases hty with h | h
  · exact absurd (hk.2.1.trans h) (by decide)
  · exact absurd (hk.2.1.trans h) (by decide)

/-- The first k of a row of slots; the others. -/
theorem src_take {w w' : World} {B k c : Nat} {g cap : Nat} {l : List RSl} (h : IsRSl w B (.slice (some ⟨g, 0, none⟩) l.length cap) l) (hb : Below w.heap.size w w') : Src w' (.slice (some ⟨g, 0, none⟩) k c) k ((l.take k).flatMap RSl.cells) := by
  refine .inr ⟨⟨g, 0, none⟩, c, rfl, fun j u hu => ?_⟩
  have hlt : g < w.heap.size := (h.row.lt g rfl).2
  have e : (l.take k).flatMap RSl.cells <+: l.flatMap RSl.cells := by
    conv => rhs; rw [← List.take_append_drop k l]
    rw [List.flatMap_append]
    exact List.prefix_append _ _
  have hj : j < l.length * 7 := by
    have h1 := (List.getElem?_eq_some_iff.1 hu).1
    have h2 := e.length_le
    rw [flat_len l] at h2
    omega
  rw [Addr.add_lit, Nat.zero_add, hb.cell (p := ⟨g, j, none⟩) hlt, h.row.cellAt j (by omega)]
  obtain ⟨r, hr⟩ := e
  rw [← hr, List.getElem?_append_left ((List.getElem?_eq_some_iff.1 hu).1)]
  exact hu
theorem src_drop {w w' : World} {B k m c : Nat} {g cap : Nat} {l : List RSl} (h : IsRSl w B (.slice (some ⟨g, 0, none⟩) l.length cap) l) (hb : Below w.heap.size w w') (hk : k ≤ l.length) : Src w' (.slice (some ⟨g, k * 7, none⟩) m c) m ((l.drop k).flatMap RSl.cells) := by
  refine .inr ⟨⟨g, k * 7, none⟩, c, rfl, fun j u hu => ?_⟩
  have hlt : g < w.heap.size := (h.row.lt g rfl).2
  have e : l.flatMap RSl.cells = (l.take k).flatMap RSl.cells ++ (l.drop k).flatMap RSl.cells := by rw [← List.flatMap_append, List.take_append_drop]
  have hj : j < (l.length - k) * 7 := by
    have h1 := (List.getElem?_eq_some_iff.1 hu).1
    rw [flat_len] at h1
    simpa using h1
  have hl : ((l.take k).flatMap RSl.cells).length = k * 7 := by rw [flat_len]; simp [hk]
  have hkj : k * 7 + j < l.length * 7 := by omega
  rw [Addr.add_lit, hb.cell (p := ⟨g, k * 7 + j, none⟩) hlt, h.row.cellAt (k * 7 + j) hkj, e, List.getElem?_append_right (by omega), hl]
  rw [show k * 7 + j - k * 7 = j by omega]
  exact hu
/-- Slots picked out of a row, in a row of their own. -/
theorem IsRSl.pick {w w1 : World} {B C : Nat} {v v1 : Value} {l l1 : List RSl} (h : IsRSl w B v l) (hb : Below w.heap.size w w1) (hC : B ≤ C) (hr : w1.ownsRow C 97 7 v1 l1.length (l1.flatMap RSl.cells)) (hs : ∀ s ∈ l1, s ∈ l) : IsRSl w1 B v1 l1 :=
  ⟨ownsRow_low hr hC, fun s h1 => own_below (h.deps s (hs s h1)) hb⟩

/-- Its trim is set. -/
theorem rs_trim {w : World} {B p q : Nat} {S : SegD} {n : Int} (hd : IsRS w B p q S) (hok : SegD.ok { S with trim := n }) : IsRS (w.setCell ⟨p, 3, none⟩ (.int .i64 n)) B p q { S with trim := n } ∧ Touch (fun k => k = p) w (w.setCell ⟨p, 3, none⟩ (.int .i64 n)) := by
  obtain ⟨v, l, hl, hp, hr⟩ := hd.val
  refine ⟨⟨hok, hd.few, hd.low, v, l, hl, by simpa using setAt (j := 3) hp (.int .i64 n), hr.keep fun k c ty hk hty => Below.heap_setCell _ _ _ _ fun e => ?_⟩, touch_set _ _ _ rfl⟩
  have e' : k = p := e
  subst e'
  rw [hp] at hk
  simp only [Option.some.injEq, Obj.cells.injEq] at hk
  rcases hty with h | h
  · exact absurd (hk.2.1.trans h) (by decide)
  · exact absurd (hk.2.1.trans h) (by decide)

set_option maxHeartbeats 4000000 in
set_option maxRecDepth 100000 in
theorem refAbove_calls (B p q : Nat) (S : SegD) (pos : Int) (w : World) (hd : IsRS w B p q S) (hB : B ≤ w.heap.size) :
    Calls Tryz.prog 73 #[.pointer (some ⟨p, 0, none⟩), .int .i64 pos] w fun e w' => e = .returned (.tuple #[]) ∧ IsRS w' B p q { S with slots := S.slots.take (belowN (poss S) pos) } ∧ Touch (fun k => k = p) w w' := by
  obtain ⟨i0, hi0, hz0, hz1, hz2⟩ := info_parts Tryz.info97
  have u1 := hide (refAt_calls B p q S pos w hd)
  have Hd := hide hd
  have hfew := hd.few
  have hk : belowN (poss S) pos ≤ S.slots.length := by have := belowN_le (poss S) pos; rw [poss_length] at this; exact this
  have hok2 := hide (take_ok hd.ok (belowN (poss S) pos))
  generalize belowN (poss S) pos = k at *
  generalize isAt (poss S) pos = bt at *
  clear hd
  go_enter Tryz.func73, Tryz.ntmps73
  go_wp2_with fail
  refine u1.out.mono ?_
  rintro e w' ⟨rfl, nq, rfl⟩
  obtain ⟨W, hW⟩ : ∃ W, w.drewN nq = W := ⟨_, rfl⟩
  have hdW : IsRS W B p q S := by rw [← hW]; exact Hd.out.drews nq
  have hBW : B ≤ W.heap.size := by rw [← hW]; exact hB
  have TW := hide (show Below w.heap.size w W by rw [← hW]; exact drewsB w nq)
  rw [hW]
  clear hW u1 Hd
  obtain ⟨v, l, hl, hp, hr⟩ := hdW.val
  have hll : l.length = S.slots.length := by rw [← hl]; simp
  obtain ⟨a, cap, rfl⟩ := ownsRow_slice hr.row
  obtain ⟨c0, c1, c2, c3, f0, f1, f2, f3⟩ := cells4 hp
  have hplt := ltAt hp
  have hrow0 : (W.alloc (.cells #[] 97)).ownsRow W.heap.size 97 7 (.slice (some ⟨W.heap.size, 0, none⟩) 0 0) 0 [] := World.ownsRow_lit W #[] 0 (Nat.le_refl _) (by unfold maxLen; omega) rfl
  have hb0 := box_below W (.cells #[] 97)
  rw [hll] at c1
  have hone : Hid (∀ u ∈ (l.take k).flatMap RSl.cells, u.oneCell' = true) := rsls_one hr (fun s hs => List.mem_of_mem_take hs)
  have hMc : ((l.take k).flatMap RSl.cells).length = k * 7 := by rw [flat_len]; simp; omega
  have Hr := hide hr
  have Hp := hide hp
  have HW := hide hdW
  have Hl := hide hl
  clear hr hp hdW hl
  have hkI : (k : Int) ≤ (S.slots.length : Int) := by omega
  cases a with
  | none =>
    have hn0 : S.slots.length = 0 := by
      rcases Hr.out.row.2 with ⟨e, h00⟩ | ⟨g', cap', cur, e, _⟩
      · omega
      · cases e
    have hcap : cap = 0 := by
      rcases Hr.out.row.2 with ⟨e, h00⟩ | ⟨g', cap', cur, e, _⟩
      · simp only [Value.slice.injEq, true_and] at e
        exact e.2
      · cases e
    subst hcap
    obtain rfl : k = 0 := by omega
    rw [hn0] at c1
    have hsrc : Src (W.alloc (.cells #[] 97)) (.slice none 0 0) 0 ((l.take 0).flatMap RSl.cells) := .inl ⟨rfl, rfl, rfl⟩
    have d1 := fun o => Lib.cell?_alloc_some o c1
    go_wp2_with (at_builtin; refine wpList_append_src rfl _ _ 89 rfl W.heap.size 97 i0 _ 7 88 Tryz.underlying89 hi0 hz0 hz1 hz2 rfl (by decide) _ _ _ rfl hrow0 _ 0 _ rfl hsrc hMc hone.out (by unfold maxLen; omega) (by omega) (by simp) ?_)
    intro v1 w1 hown1 hgrow1
    have hown1' : w1.ownsRow W.heap.size 97 7 v1 (l.take 0).length ((l.take 0).flatMap RSl.cells) := by
      rw [show (l.take 0).length = 0 by simp]
      simpa using hown1
    obtain ⟨a2, cap2, rfl⟩ := ownsRow_slice hown1
    have hb1 : Below W.heap.size W w1 := ((Below.refl _ W).alloc (Nat.le_refl _) _).grown hgrow1 (by simp) (fun j hj => (hrow0.lt j hj).1)
    have e1 := (hb1.cell (p := ⟨p, 1, none⟩) hplt).trans c1
    have l1 : w1.frozen? ⟨p, 1, none⟩ = false := (hb1.frozen (p := ⟨p, 1, none⟩) hplt).trans f1
    obtain ⟨I, T⟩ := rs_put (sl := S.slots.take 0) HW.out hb1 (Hr.out.pick hb1 hBW hown1' (fun s hs => List.mem_of_mem_take hs)) (by rw [List.map_take, Hl.out]) hok2.out (by rw [List.length_take]; omega)
    have F := hide (show IsRS (w1.setCell ⟨p, 1, none⟩ (.slice a2 (0 + 0) cap2)) B p q { S with slots := S.slots.take 0 } ∧ Touch (fun k => k = p) w (w1.setCell ⟨p, 1, none⟩ (.slice a2 (0 + 0) cap2)) from ⟨I, T.of_touch TW.out⟩)
    clear I T hown1 hown1' hgrow1 hsrc hrow0 hMc hone hb1 hb0
    go_wp2_with fail
    go_end0
    exact ⟨rfl, F.out⟩
  | some ad =>
    obtain ⟨g, rfl⟩ : ∃ g, ad = ⟨g, 0, none⟩ := by
      rcases Hr.out.row.2 with ⟨e, h00⟩ | ⟨g', cap', cur, e, _⟩
      · cases e
      · simp only [Value.slice.injEq, Option.some.injEq] at e
        exact ⟨g', e.1⟩
    have hcapl : l.length ≤ cap := by
      rcases Hr.out.row.2 with ⟨e, h00⟩ | ⟨g', cap', cur, e, _, _, h1, _⟩
      · cases e
      · simp only [Value.slice.injEq] at e
        omega
    have hsrc : Src (W.alloc (.cells #[] 97)) (.slice (some ⟨g, 0, none⟩) k cap) k ((l.take k).flatMap RSl.cells) := src_take Hr.out hb0
    have d1 := fun o => Lib.cell?_alloc_some o c1
    go_wp2_with (at_builtin; refine wpList_append_src rfl _ _ 89 rfl W.heap.size 97 i0 _ 7 88 Tryz.underlying89 hi0 hz0 hz1 hz2 rfl (by decide) _ _ _ rfl hrow0 _ k _ rfl hsrc hMc hone.out (by unfold maxLen; omega) (by omega) (by simp) ?_)
    intro v1 w1 hown1 hgrow1
    have hown1' : w1.ownsRow W.heap.size 97 7 v1 (l.take k).length ((l.take k).flatMap RSl.cells) := by
      rw [show (l.take k).length = k by simp; omega]
      simpa using hown1
    obtain ⟨a2, cap2, rfl⟩ := ownsRow_slice hown1
    have hb1 : Below W.heap.size W w1 := ((Below.refl _ W).alloc (Nat.le_refl _) _).grown hgrow1 (by simp) (fun j hj => (hrow0.lt j hj).1)
    have e1 := (hb1.cell (p := ⟨p, 1, none⟩) hplt).trans c1
    have l1 : w1.frozen? ⟨p, 1, none⟩ = false := (hb1.frozen (p := ⟨p, 1, none⟩) hplt).trans f1
    obtain ⟨I, T⟩ := rs_put (sl := S.slots.take k) HW.out hb1 (Hr.out.pick hb1 hBW hown1' (fun s hs => List.mem_of_mem_take hs)) (by rw [List.map_take, Hl.out]) hok2.out (by rw [List.length_take]; omega)
    have F := hide (show IsRS (w1.setCell ⟨p, 1, none⟩ (.slice a2 k cap2)) B p q { S with slots := S.slots.take k } ∧ Touch (fun k => k = p) w (w1.setCell ⟨p, 1, none⟩ (.slice a2 k cap2)) from ⟨I, T.of_touch TW.out⟩)
    clear I T hown1 hown1' hgrow1 hsrc hrow0 hMc hone hb1 hb0
    go_wp2_with fail
    go_end0
    exact ⟨rfl, F.out⟩

set_option maxHeartbeats 4000000 in
set_option maxRecDepth 100000 in
theorem refBelow_calls (B p q : Nat) (S : SegD) (pos : Int) (w : World) (hd : IsRS w B p q S) (hB : B ≤ w.heap.size) (ht0 : S.trim < pos) (ht1 : pos ≤ 2147483647) :
    Calls Tryz.prog 74 #[.pointer (some ⟨p, 0, none⟩), .int .i64 pos] w fun e w' => e = .returned (.tuple #[]) ∧ IsRS w' B p q { S with slots := S.slots.drop (belowN (poss S) pos), trim := pos } ∧ Touch (fun k => k = p) w w' := by
  obtain ⟨i0, hi0, hz0, hz1, hz2⟩ := info_parts Tryz.info97
  have u1 := hide (refAt_calls B p q S pos w hd)
  have Hd := hide hd
  have hfew := hd.few
  have hk : belowN (poss S) pos ≤ S.slots.length := by have := belowN_le (poss S) pos; rw [poss_length] at this; exact this
  have hok2 := hide (drop_ok hd.ok (belowN (poss S) pos))
  have hok3 := hide (trim_ok hd.ok ht0 ht1)
  generalize belowN (poss S) pos = k at *
  generalize isAt (poss S) pos = bt at *
  clear hd
  go_enter Tryz.func74, Tryz.ntmps74
  go_wp2_with fail
  refine u1.out.mono ?_
  rintro e w' ⟨rfl, nq, rfl⟩
  obtain ⟨W, hW⟩ : ∃ W, w.drewN nq = W := ⟨_, rfl⟩
  have hdW : IsRS W B p q S := by rw [← hW]; exact Hd.out.drews nq
  have hBW : B ≤ W.heap.size := by rw [← hW]; exact hB
  have TW := hide (show Below w.heap.size w W by rw [← hW]; exact drewsB w nq)
  rw [hW]
  clear hW u1 Hd
  obtain ⟨v, l, hl, hp, hr⟩ := hdW.val
  have hll : l.length = S.slots.length := by rw [← hl]; simp
  obtain ⟨a, cap, rfl⟩ := ownsRow_slice hr.row
  obtain ⟨c0, c1, c2, c3, f0, f1, f2, f3⟩ := cells4 hp
  have hplt := ltAt hp
  have hrow0 : (W.alloc (.cells #[] 97)).ownsRow W.heap.size 97 7 (.slice (some ⟨W.heap.size, 0, none⟩) 0 0) 0 [] := World.ownsRow_lit W #[] 0 (Nat.le_refl _) (by unfold maxLen; omega) rfl
  have hb0 := box_below W (.cells #[] 97)
  rw [hll] at c1
  have hone : Hid (∀ u ∈ (l.drop k).flatMap RSl.cells, u.oneCell' = true) := rsls_one hr (fun s hs => List.mem_of_mem_drop hs)
  have hMc : ((l.drop k).flatMap RSl.cells).length = (S.slots.length - k) * 7 := by rw [flat_len, List.length_drop, hll]
  have Hr := hide hr
  have Hp := hide hp
  have HW := hide hdW
  have Hl := hide hl
  clear hr hp hdW hl
  have hkI : (k : Int) ≤ (S.slots.length : Int) := by omega
  cases a with
  | none =>
    have hn0 : S.slots.length = 0 := by
      rcases Hr.out.row.2 with ⟨e, h00⟩ | ⟨g', cap', cur, e, _⟩
      · omega
      · cases e
    have hcap : cap = 0 := by
      rcases Hr.out.row.2 with ⟨e, h00⟩ | ⟨g', cap', cur, e, _⟩
      · simp only [Value.slice.injEq, true_and] at e
        exact e.2
      · cases e
    subst hcap
    obtain rfl : k = 0 := by omega
    rw [hn0] at c1 hMc
    have hln : l = [] := List.eq_nil_of_length_eq_zero (by omega)
    subst hln
    have hsrc : Src (W.alloc (.cells #[] 97)) (.slice none 0 0) 0 ((([] : List RSl).drop 0).flatMap RSl.cells) := .inl ⟨rfl, rfl, rfl⟩
    have d1 := fun o => Lib.cell?_alloc_some o c1
    go_wp2_with (at_builtin; refine wpList_append_src rfl _ _ 89 rfl W.heap.size 97 i0 _ 7 88 Tryz.underlying89 hi0 hz0 hz1 hz2 rfl (by decide) _ _ _ rfl hrow0 _ 0 _ rfl hsrc hMc hone.out (by unfold maxLen; omega) (by omega) (by simp) ?_)
    intro v1 w1 hown1 hgrow1
    have hown1' : w1.ownsRow W.heap.size 97 7 v1 (([] : List RSl).drop 0).length ((([] : List RSl).drop 0).flatMap RSl.cells) := by
      simpa using hown1
    obtain ⟨a2, cap2, rfl⟩ := ownsRow_slice hown1
    have hb1 : Below W.heap.size W w1 := ((Below.refl _ W).alloc (Nat.le_refl _) _).grown hgrow1 (by simp) (fun j hj => (hrow0.lt j hj).1)
    have e1 := (hb1.cell (p := ⟨p, 1, none⟩) hplt).trans c1
    have l1 : w1.frozen? ⟨p, 1, none⟩ = false := (hb1.frozen (p := ⟨p, 1, none⟩) hplt).trans f1
    obtain ⟨I, T⟩ := rs_put (sl := S.slots.drop 0) HW.out hb1 (Hr.out.pick hb1 hBW hown1' (fun s hs => List.mem_of_mem_drop hs)) (by rw [List.map_drop, Hl.out]) hok2.out (by rw [List.length_drop]; omega)
    obtain ⟨I2, T2⟩ := rs_trim I hok3.out
    have F := hide (show IsRS ((w1.setCell ⟨p, 1, none⟩ (.slice a2 (0 + 0) cap2)).setCell ⟨p, 3, none⟩ (.int .i64 pos)) B p q { S with slots := S.slots.drop 0, trim := pos } ∧ Touch (fun k => k = p) w ((w1.setCell ⟨p, 1, none⟩ (.slice a2 (0 + 0) cap2)).setCell ⟨p, 3, none⟩ (.int .i64 pos)) from ⟨I2, (T.trans T2).of_touch TW.out⟩)
    have e3 := (hb1.cell (p := ⟨p, 3, none⟩) hplt).trans c3
    have l3 : w1.frozen? ⟨p, 3, none⟩ = false := (hb1.frozen (p := ⟨p, 3, none⟩) hplt).trans f3
    clear I T I2 T2 hown1 hown1' hgrow1 hsrc hrow0 hMc hone hb1 hb0
    go_wp2_with fail
    go_end0
    exact ⟨rfl, F.out⟩
  | some ad =>
    obtain ⟨g, rfl⟩ : ∃ g, ad = ⟨g, 0, none⟩ := by
      rcases Hr.out.row.2 with ⟨e, h00⟩ | ⟨g', cap', cur, e, _⟩
      · cases e
      · simp only [Value.slice.injEq, Option.some.injEq] at e
        exact ⟨g', e.1⟩
    have hcapl : l.length ≤ cap := by
      rcases Hr.out.row.2 with ⟨e, h00⟩ | ⟨g', cap', cur, e, _, _, h1, _⟩
      · cases e
      · simp only [Value.slice.injEq] at e
        omega
    by_cases hkc : k = cap
    · subst hkc
      have hdk : l.drop k = [] := List.drop_eq_nil_of_le (by omega)
      have hsrc : Src (W.alloc (.cells #[] 97)) (.slice (some ⟨g, 0, none⟩) (S.slots.length - k) 0) (S.slots.length - k) ((l.drop k).flatMap RSl.cells) := .inr ⟨⟨g, 0, none⟩, 0, rfl, fun j u hu => by rw [hdk] at hu; cases hu⟩
      have d1 := fun o => Lib.cell?_alloc_some o c1
      go_wp2_with (at_builtin; refine wpList_append_src rfl _ _ 89 rfl W.heap.size 97 i0 _ 7 88 Tryz.underlying89 hi0 hz0 hz1 hz2 rfl (by decide) _ _ _ rfl hrow0 _ (S.slots.length - k) _ rfl hsrc hMc hone.out (by unfold maxLen; omega) (by omega) (by simp) ?_)
      intro v1 w1 hown1 hgrow1
      have hown1' : w1.ownsRow W.heap.size 97 7 v1 (l.drop k).length ((l.drop k).flatMap RSl.cells) := by
        rw [List.length_drop, hll, hdk]
        simpa using hown1
      obtain ⟨a2, cap2, rfl⟩ := ownsRow_slice hown1
      have hb1 : Below W.heap.size W w1 := ((Below.refl _ W).alloc (Nat.le_refl _) _).grown hgrow1 (by simp) (fun j hj => (hrow0.lt j hj).1)
      have e1 := (hb1.cell (p := ⟨p, 1, none⟩) hplt).trans c1
      have l1 : w1.frozen? ⟨p, 1, none⟩ = false := (hb1.frozen (p := ⟨p, 1, none⟩) hplt).trans f1
      obtain ⟨I, T⟩ := rs_put (sl := S.slots.drop k) HW.out hb1 (Hr.out.pick hb1 hBW hown1' (fun s hs => List.mem_of_mem_drop hs)) (by rw [List.map_drop, Hl.out]) hok2.out (by rw [List.length_drop]; omega)
      obtain ⟨I2, T2⟩ := rs_trim I hok3.out
      have F := hide (show IsRS ((w1.setCell ⟨p, 1, none⟩ (.slice a2 (S.slots.length - k) cap2)).setCell ⟨p, 3, none⟩ (.int .i64 pos)) B p q { S with slots := S.slots.drop k, trim := pos } ∧ Touch (fun k => k = p) w ((w1.setCell ⟨p, 1, none⟩ (.slice a2 (S.slots.length - k) cap2)).setCell ⟨p, 3, none⟩ (.int .i64 pos)) from ⟨I2, (T.trans T2).of_touch TW.out⟩)
      have e3 := (hb1.cell (p := ⟨p, 3, none⟩) hplt).trans c3
      have l3 : w1.frozen? ⟨p, 3, none⟩ = false := (hb1.frozen (p := ⟨p, 3, none⟩) hplt).trans f3
      clear I T I2 T2 hown1 hown1' hgrow1 hsrc hrow0 hMc hone hb1 hb0
      go_wp2_with fail
      go_end0
      exact ⟨rfl, F.out⟩
    · have hkc' : k < cap := by omega
      have hsrc : Src (W.alloc (.cells #[] 97)) (.slice (some ⟨g, k * 7, none⟩) (S.slots.length - k) (cap - k)) (S.slots.length - k) ((l.drop k).flatMap RSl.cells) := src_drop Hr.out hb0 (by omega)
      have d1 := fun o => Lib.cell?_alloc_some o c1
      go_wp2_with (at_builtin; refine wpList_append_src rfl _ _ 89 rfl W.heap.size 97 i0 _ 7 88 Tryz.underlying89 hi0 hz0 hz1 hz2 rfl (by decide) _ _ _ rfl hrow0 _ (S.slots.length - k) _ rfl hsrc hMc hone.out (by unfold maxLen; omega) (by omega) (by simp) ?_)
      intro v1 w1 hown1 hgrow1
      have hown1' : w1.ownsRow W.heap.size 97 7 v1 (l.drop k).length ((l.drop k).flatMap RSl.cells) := by
        rw [List.length_drop, hll]
        simpa using hown1
      obtain ⟨a2, cap2, rfl⟩ := ownsRow_slice hown1
      have hb1 : Below W.heap.size W w1 := ((Below.refl _ W).alloc (Nat.le_refl _) _).grown hgrow1 (by simp) (fun j hj => (hrow0.lt j hj).1)
      have e1 := (hb1.cell (p := ⟨p, 1, none⟩) hplt).trans c1
      have l1 : w1.frozen? ⟨p, 1, none⟩ = false := (hb1.frozen (p := ⟨p, 1, none⟩) hplt).trans f1
      obtain ⟨I, T⟩ := rs_put (sl := S.slots.drop k) HW.out hb1 (Hr.out.pick hb1 hBW hown1' (fun s hs => List.mem_of_mem_drop hs)) (by rw [List.map_drop, Hl.out]) hok2.out (by rw [List.length_drop]; omega)
      obtain ⟨I2, T2⟩ := rs_trim I hok3.out
      have F := hide (show IsRS ((w1.setCell ⟨p, 1, none⟩ (.slice a2 (S.slots.length - k) cap2)).setCell ⟨p, 3, none⟩ (.int .i64 pos)) B p q { S with slots := S.slots.drop k, trim := pos } ∧ Touch (fun k => k = p) w ((w1.setCell ⟨p, 1, none⟩ (.slice a2 (S.slots.length - k) cap2)).setCell ⟨p, 3, none⟩ (.int .i64 pos)) from ⟨I2, (T.trans T2).of_touch TW.out⟩)
      have e3 := (hb1.cell (p := ⟨p, 3, none⟩) hplt).trans c3
      have l3 : w1.frozen? ⟨p, 3, none⟩ = false := (hb1.frozen (p := ⟨p, 3, none⟩) hplt).trans f3
      clear I T I2 T2 hown1 hown1' hgrow1 hsrc hrow0 hMc hone hb1 hb0
      go_wp2_with fail
      go_end0
      exact ⟨rfl, F.out⟩

end Go.Proofs.YtncmocmmkbmmjaaGreatDoor
