/- The reference's disks: Write, Crash, Cut. Own work; no statement. -/
import Derived.Test.YtheaifgoleklpaaRD1
set_option linter.unusedSimpArgs false
set_option linter.unusedVariables false
namespace Go.Proofs.Ytheaifgoleklpaa
open Go.RowKit Go.Shelf

/-- What lies where a slice says, nil too. -/
def Src (w : World) (vx : Value) (m : Nat) (news : List Value) : Prop := (vx = .slice none 0 0 ∧ m = 0 ∧ news = []) ∨ ∃ ad c, vx = .slice (some ad) m c ∧ ∀ j u, news[j]? = some u → w.cell? (ad.add j) = some u

/-- A slice put behind a row of one's own. -/
theorem wpList_append_src {P : Program} {w : World} {ops : Array Oper} {rest : List Oper} {o : Oper} {a : Act} {Q : Exit → Act → World → Prop} (hgd : o.guard = none) (s x : Operand) (t : TypeId)
    (ho : o.op = .call { callee := .builtin .append, args := #[s, x], argTypes := #[t, t] })
    (base : Nat) (e : TypeId) (i : TypeInfo) (z : Value) (size bytes : Nat) (ht : P.underlying t = some (.slice e)) (hi : P.info? e = some i) (hz : i.zero = some z)
    (hsize : i.size = size) (hby : i.bytes = bytes) (hzs : z.cells.size = size) (hsz : 0 < size)
    (v : Value) (n : Nat) (xs : List Value) (hs : a.eval s = v) (hown : w.ownsRow base e size v n xs)
    (vx : Value) (m : Nat) (news : List Value) (hx : a.eval x = vx) (hsrc : Src w vx m news) (hl : news.length = m * size) (h1 : ∀ u ∈ news, u.oneCell' = true)
    (h63 : n + m ≤ maxLen) (hbytes : (n + m) * bytes ≤ 140737488355328) (hbase : base ≤ w.heap.size)
    (h : ∀ v' w', w'.ownsRow base e size v' (n + m) (xs ++ news) → w.grownBy w' v.ownBlock → wpList P ops Q rest (a.put o.dst v') w') : wpList P ops Q (o :: rest) a w := by
  rcases hsrc with ⟨rfl, rfl, rfl⟩ | ⟨ad, c, rfl, hc⟩
  · refine wpList_append_own_none hgd s x t ho base e i size ht hi v n xs hs hown hx (h v w (by rw [List.append_nil]; exact hown) (World.grownBy.refl _ _))
  · exact wpList_append_own w hgd s x t ho base e i z size bytes ht hi hz hsize hby hzs hsz v n xs hs hown ad m c news hx hl hc h1 h63 hbytes hbase fun v' w' h2 h3 _ => h v' w' h2 h3

/-- The first n of a row of texts. -/
theorem src_strs {w w' : World} {B n : Nat} {a : Option Addr} {cap cap' : Nat} {l : List ByteArray} (hr : w.ownsRow B 9 1 (.slice a l.length cap) l.length (l.map Value.string)) (hn : n ≤ l.length) (ha : a ≠ none) (hb : Below w.heap.size w w') : Src w' (.slice a n cap') n ((l.take n).map Value.string) := by
  rcases hr.2 with ⟨e, h0⟩ | ⟨g, cap1, cur, e, _⟩
  · simp only [Value.slice.injEq] at e
    exact absurd e.1 ha
  · simp only [Value.slice.injEq] at e
    obtain ⟨rfl, -, rfl⟩ := e
    refine .inr ⟨⟨g, 0, none⟩, cap', rfl, fun j u hu => ?_⟩
    have hj : j < n := by
      have := (List.getElem?_eq_some_iff.1 hu).1
      simp at this
      omega
    have hc := hr.cellAt j (by omega)
    rw [Addr.add_lit, Nat.zero_add]
    have hlt : (⟨g, j, none⟩ : Addr).block < w.heap.size := (hr.lt g rfl).2
    rw [hb.cell hlt, hc, ← hu]
    simp [hj]

/-- The row of a disk of the reference, put in anew. -/
theorem rd_put {w w1 : World} {B q : Nat} {g : Option Nat} {D : DiskD} {v : Value} {ls : List ByteArray} {n : Nat} (hd : IsRD w B q g D) (hB : B ≤ w.heap.size) (hb : Below w.heap.size w w1) (hr : w1.ownsRow w.heap.size 9 1 v ls.length (ls.map Value.string)) (hn : n ≤ ls.length) (hf : (bytesOf ls : Int) ≤ D.room) :
    IsRD ((w1.setCell ⟨q, 1, none⟩ v).setCell ⟨q, 2, none⟩ (.int .i64 (n : Int))) B q v.ownBlock ⟨D.room, ls, n⟩ ∧ Touch (onDisk q g) w ((w1.setCell ⟨q, 1, none⟩ v).setCell ⟨q, 2, none⟩ (.int .i64 (n : Int))) ∧ (∀ k, v.ownBlock = some k → g = some k ∨ w.heap.size ≤ k) := by
  obtain ⟨v0, hv, hp, hr0⟩ := hd.val
  have hq := hd.lt
  have hp1 := (hb.block q hq).trans hp
  refine ⟨⟨⟨hd.ok.low, hd.ok.high, hf, hn⟩, hd.low, v, rfl, ?_, ?_⟩, ((touch_new hb).set _ _ (.inl rfl)).set _ _ (.inl rfl), fun k e => .inr (hr.lt k e).1⟩
  · simpa using setAt (j := 2) (setAt (j := 1) hp1 v) (.int .i64 (n : Int))
  · have hr' : w1.ownsRow B 9 1 v ls.length (ls.map Value.string) := ownsRow_low hr hB
    refine ownsRow_of_heap hr' fun k e => ?_
    have hk := (hr.lt k e).1
    have hne' : ∀ j, k ≠ (⟨q, j, none⟩ : Addr).block := fun j e => by have : k = q := e; omega
    exact (Below.heap_setCell _ _ _ _ (hne' _)).trans (Below.heap_setCell _ _ _ _ (hne' _))
theorem rd_put1 {w w1 : World} {B q : Nat} {g : Option Nat} {D : DiskD} {v : Value} {ls : List ByteArray} (hd : IsRD w B q g D) (hB : B ≤ w.heap.size) (hb : Below w.heap.size w w1) (hr : w1.ownsRow w.heap.size 9 1 v ls.length (ls.map Value.string)) (hn : D.lasts ≤ ls.length) (hf : (bytesOf ls : Int) ≤ D.room) :
    IsRD (w1.setCell ⟨q, 1, none⟩ v) B q v.ownBlock ⟨D.room, ls, D.lasts⟩ ∧ Touch (onDisk q g) w (w1.setCell ⟨q, 1, none⟩ v) ∧ (∀ k, v.ownBlock = some k → g = some k ∨ w.heap.size ≤ k) := by
  obtain ⟨v0, hv, hp, hr0⟩ := hd.val
  have hq := hd.lt
  have hp1 := (hb.block q hq).trans hp
  refine ⟨⟨⟨hd.ok.low, hd.ok.high, hf, hn⟩, hd.low, v, rfl, ?_, ?_⟩, (touch_new hb).set _ _ (.inl rfl), fun k e => .inr (hr.lt k e).1⟩
  · simpa using setAt (j := 1) hp1 v
  · have hr' : w1.ownsRow B 9 1 v ls.length (ls.map Value.string) := ownsRow_low hr hB
    refine ownsRow_of_heap hr' fun k e => ?_
    have hk := (hr.lt k e).1
    have hne' : ∀ j, k ≠ (⟨q, j, none⟩ : Addr).block := fun j e => by have : k = q := e; omega
    exact Below.heap_setCell _ _ _ _ (hne' _)

set_option maxHeartbeats 1000000 in
theorem refFind_end (s : ByteArray) (w : World) (hs : s.size ≤ 1099511627776) :
    Calls Try.prog 31 #[.string s, .int .u8 10, .int .i64 0] w fun e w' => (∃ r : Int, e = .returned (.int .i64 r) ∧ (0 ≤ r ↔ hasEnd s = true)) ∧ w' = w := by
  have hin : ∀ j (hj : j < s.size), s[j] = 10 → hasEnd s = true := fun j hj h => by
    unfold hasEnd
    rw [decide_eq_true_eq, ← h]
    exact List.getElem_mem (l := s.data.toList) (n := j) (by rw [← Lib.size_eq]; exact hj)
  have hno : (∀ j (hj : j < s.size), s[j] ≠ 10) → ¬ hasEnd s = true := fun h he => by
    unfold hasEnd at he
    rw [decide_eq_true_eq] at he
    obtain ⟨j, hj, e⟩ := List.mem_iff_getElem.1 he
    exact h j (by rw [Lib.size_eq]; exact hj) e
  have Hin := hide hin
  have Hno := hide hno
  clear hin hno
  go_enter Try.func31, Try.ntmps31
  go_wp2_with fail
  go_loop [7] (fun x => ∃ k : Nat, k ≤ s.size ∧ x = .int .i64 (k : Int) ∧ ∀ j (hj : j < s.size), j < k → s[j] ≠ 10) (fun x => s.size - (intOf x).toNat)
  case atStart => exact ⟨0, Nat.zero_le _, rfl, fun j _ h2 => by omega⟩
  case round =>
    obtain ⟨k, hks, rfl, hall⟩ := hrel
    replace hall := hide hall
    by_cases hkl : k < s.size
    · have hlt : (k : Int) < (s.size : Int) := by omega
      by_cases hc : s[k] = 10
      · have hc' : (((s[k].toNat : Nat) : Int) == 10) = true := by rw [hc]; rfl
        have H := hide (Hin.out k hkl hc)
        clear hc hks
        go_wp2_with fail
        go_ret
        exact ⟨⟨_, rfl, by simp [H.out]⟩, rfl⟩
      · have hc' : (((s[k].toNat : Nat) : Int) == 10) = false := by
          rw [beq_eq_false_iff_ne]
          intro e
          exact hc (UInt8.toNat_inj.1 (by show s[k].toNat = 10; omega))
        replace hc := hide hc
        clear hks
        go_wp2_with fail
        refine ⟨⟨k + 1, by omega, by go_num, fun j hj h2 => ?_⟩, by simp [intOf]; omega⟩
        by_cases e : j = k
        · subst e
          exact hc.out
        · exact hall.out j hj (by omega)
    · have H := hide (Hno.out fun j hj => hall.out j hj (by omega))
      have hlt : ¬ (k : Int) < (s.size : Int) := by omega
      clear hkl hks
      go_wp2_with fail
      go_ret
      exact ⟨⟨_, rfl, by simp [H.out]⟩, rfl⟩

set_option maxRecDepth 100000 in
set_option maxHeartbeats 4000000 in
theorem refDiskWrite_calls (B p : Nat) (g : Option Nat) (D : DiskD) (s : ByteArray) (w : World) (hd : IsRD w B p g D) (hB : B ≤ w.heap.size) (hs : s.size ≤ 1099511627776) :
    Calls Try.prog 13 #[.pointer (some ⟨p, 0, none⟩), .string s] w fun e w' => e = .returned (.int .i64 (writeE D s)) ∧ ∃ g', IsRD w' B p g' (writeD D s) ∧ Touch (onDisk p g) w w' ∧ (∀ k, g' = some k → g = some k ∨ w.heap.size ≤ k) := by
  obtain ⟨i0, hi0, hz0, hz1, hz2⟩ := info_parts Try.info9
  have u1 := hide (fun w => refFind_end s w hs)
  have u2 := hide (fun w hd => refDiskUsed_calls B p g D w hd)
  have hl := hd.len
  have hk0 := hd.ok.low
  have hk1 := hd.ok.high
  have Hd := hide hd
  have HB := hide hB
  obtain ⟨a, cap, c0, c1, c2, hf, -, -, -⟩ := hd.open
  clear hd hB hf
  by_cases he : hasEnd s = true
  · have e0 : writeE D s = 2 := by unfold writeE; rw [if_pos he]
    have e1 : writeD D s = D := by unfold writeD; rw [e0, if_neg (by decide)]
    rw [e0, e1]
    have He := hide he
    clear e0 e1 he
    go_enter Try.func13, Try.ntmps13
    go_wp2_with fail
    refine (u1.out _).mono ?_
    rintro e w' ⟨⟨r, rfl, hr⟩, hw⟩
    subst hw
    have hr0 : 0 ≤ r := hr.2 He.out
    clear hr
    go_wp2
    go_ret
    exact ⟨rfl, g, Hd.out, Touch.refl _ _, fun k h => .inl h⟩
  · have He := hide he
    clear he
    by_cases hr : D.room - (bytesOf D.lines : Int) < (s.size : Int) + 1
    · have e0 : writeE D s = 6 := by unfold writeE; rw [if_neg He.out, if_pos hr]
      have e1 : writeD D s = D := by unfold writeD; rw [e0, if_neg (by decide)]
      rw [e0, e1]
      clear e0 e1
      go_enter Try.func13, Try.ntmps13
      go_wp2_with fail
      refine (u1.out _).mono ?_
      rintro e w' ⟨⟨r, rfl, hr'⟩, hw⟩
      subst hw
      have hr0 : ¬ 0 ≤ r := fun h => He.out (hr'.1 h)
      clear hr'
      go_wp2_with fail
      go_quiet (first | (go_at_call 27; refine Calls.quiet_of_same (u2.out _ (Hd.out.keep fun _ _ => rfl))))
      go_wp2
      go_ret
      exact ⟨rfl, g, Hd.out.new (drewsB _ _), touch_new (drewsB _ _), fun k h => .inl h⟩
    · have e0 : writeE D s = 0 := by unfold writeE; rw [if_neg He.out, if_neg hr]
      have e1 : writeD D s = ⟨D.room, D.lines ++ [s], D.lasts⟩ := by unfold writeD; rw [e0, if_pos rfl]
      rw [e0, e1]
      clear e0 e1
      go_enter Try.func13, Try.ntmps13
      go_wp2_with fail
      refine (u1.out _).mono ?_
      rintro e w' ⟨⟨r, rfl, hr'⟩, hw⟩
      subst hw
      have hr0 : ¬ 0 ≤ r := fun h => He.out (hr'.1 h)
      clear hr'
      go_wp2_with fail
      go_quiet (first | (go_at_call 27; refine Calls.quiet_of_same (u2.out _ (Hd.out.keep fun _ _ => rfl))))
      have hB0 := hide (drewsB w' nq)
      have Hd0 := hide (Hd.out.drews nq)
      have HB0 : Hid (B ≤ (w'.drewN nq).heap.size) := HB.out
      obtain ⟨W0, hW0⟩ : ∃ W0, w'.drewN nq = W0 := ⟨_, rfl⟩
      rw [hW0] at hB0 Hd0 HB0 ⊢
      clear hW0 c0 c1 c2 u1 u2 HB
      obtain ⟨a, cap, c0, c1, c2, hf, hg, hrow, hp⟩ := Hd0.out.open
      have hsrc : Src (W0.alloc (.cells #[] 9)) (.slice a D.lines.length cap) D.lines.length (D.lines.map Value.string) := by
        rcases hrow.2 with ⟨e, h0⟩ | ⟨g', cap', cur, e, _⟩
        · exact .inl ⟨by rw [e], h0, by rw [List.eq_nil_of_length_eq_zero h0]; rfl⟩
        · have := src_strs (n := D.lines.length) (cap' := cap) hrow (Nat.le_refl _) (by simp only [Value.slice.injEq] at e; rw [e.1]; simp) ((Below.refl _ W0).alloc (Nat.le_refl _) (.cells #[] 9))
          rwa [List.take_of_length_le (Nat.le_refl _)] at this
      have hrow0 : (W0.alloc (.cells #[] 9)).ownsRow W0.heap.size 9 1 (.slice (some ⟨W0.heap.size, 0, none⟩) 0 0) 0 [] := World.ownsRow_lit W0 #[] 0 (Nat.le_refl _) (by unfold maxLen; omega) rfl
      have d1 := fun o => Lib.cell?_alloc_some o c1
      have Hrow := hide hrow
      have hplt := ltAt hp
      clear hrow hp hf hg c0 c2
      go_wp2_with (at_builtin; refine wpList_append_src rfl _ _ 40 rfl W0.heap.size 9 i0 (.string ⟨#[]⟩) 1 16 Try.underlying40 hi0 hz0 hz1 hz2 rfl (by decide) _ _ _ rfl hrow0 _ D.lines.length _ rfl hsrc (by simp) (by intro u hu; obtain ⟨x, _, rfl⟩ := List.mem_map.1 hu; rfl) (by unfold maxLen; omega) (by omega) (by simp) ?_)
      intro v1 w1 hown1 hgrow1
      have hb1 : Below W0.heap.size W0 w1 := ((Below.refl _ W0).alloc (Nat.le_refl _) _).grown hgrow1 (by simp) (fun j hj => (hrow0.lt j hj).1)
      have hs1 := hb1.size
      clear hsrc hgrow1 d1 hrow0
      go_wp2_with (at_builtin; refine wpList_append_own _ rfl _ _ 40 rfl W0.heap.size 9 i0 (.string ⟨#[]⟩) 1 16 Try.underlying40 hi0 hz0 hz1 hz2 rfl (by decide) _ _ _ rfl (hown1.alloc _) ⟨w1.heap.size, 0, none⟩ 1 1 [.string s] rfl rfl (cell_one_new _ _ _) (by intro u hu; simp at hu; subst hu; rfl) (by unfold maxLen; omega) (by omega) (by simp; omega) ?_)
      intro v2 w2 hown2 hgrow2 _
      have hb2 : Below W0.heap.size W0 w2 := (hb1.alloc hb1.size _).grown hgrow2 (by simp; omega) (fun j hj => (hown1.lt j hj).1)
      have d1 : w2.cell? ⟨p, 1, none⟩ = some (.slice a D.lines.length cap) := (hb2.cell (p := ⟨p, 1, none⟩) hplt).trans c1
      have f1 : w2.frozen? ⟨p, 1, none⟩ = false := (hb2.frozen (p := ⟨p, 1, none⟩) hplt).trans (by obtain ⟨_, _, _, _, _, hf, _⟩ := Hd0.out.open; exact hf 1)
      obtain ⟨a2, cap2, rfl⟩ := ownsRow_slice hown2
      have hrs : w2.ownsRow W0.heap.size 9 1 (.slice a2 (D.lines.length + 1) cap2) (D.lines ++ [s]).length ((D.lines ++ [s]).map Value.string) := by simpa using hown2
      obtain ⟨I, T, G⟩ := rd_put1 Hd0.out HB0.out hb2 hrs (by have := Hd.out.ok.lasts; simp; omega) (by rw [bytesOf_append]; simp [bytesOf] at *; omega)
      clear hown1 hown2 hgrow2 hb1 c1
      have II := hide I
      have TT := hide T
      have GG := hide G
      clear I T G hb2 hrs
      go_wp2_with fail
      go_ret
      exact ⟨rfl, _, II.out, TT.out.of_touch hB0.out, fun k e => (GG.out k e).imp id fun h => Nat.le_trans hB0.out.size h⟩
set_option maxRecDepth 100000 in
set_option maxHeartbeats 4000000 in
theorem refDiskCut_calls (B p : Nat) (g : Option Nat) (D : DiskD) (n : Int) (w : World) (hd : IsRD w B p g D) (hB : B ≤ w.heap.size) :
    Calls Try.prog 19 #[.pointer (some ⟨p, 0, none⟩), .int .i64 n] w fun e w' => e = .returned (.int .i64 (cutE D n)) ∧ ∃ g', IsRD w' B p g' (cutD D n) ∧ Touch (onDisk p g) w w' ∧ (∀ k, g' = some k → g = some k ∨ w.heap.size ≤ k) := by
  obtain ⟨i0, hi0, hz0, hz1, hz2⟩ := info_parts Try.info9
  have hl := hd.len
  have hlast := hd.ok.lasts
  have Hd := hide hd
  have HB := hide hB
  obtain ⟨a, cap, c0, c1, c2, hf, -, hrow, hp⟩ := hd.open
  have Hrow := hide hrow
  have hplt := ltAt hp
  have f1 := hf 1
  have f2 := hf 2
  clear hd hB hf hrow hp
  by_cases h0 : n < 0
  · have e0 : cutE D n = 1 := by unfold cutE; rw [if_pos (.inl h0)]
    have e1 : cutD D n = D := by unfold cutD; rw [e0, if_neg (by decide)]
    rw [e0, e1]
    clear e0 e1
    go_enter Try.func19, Try.ntmps19
    go_wp2
    go_ret
    exact ⟨rfl, g, Hd.out, Touch.refl _ _, fun k h => .inl h⟩
  · by_cases h1 : (D.lines.length : Int) < n
    · have e0 : cutE D n = 1 := by unfold cutE; rw [if_pos (.inr h1)]
      have e1 : cutD D n = D := by unfold cutD; rw [e0, if_neg (by decide)]
      rw [e0, e1]
      clear e0 e1
      go_enter Try.func19, Try.ntmps19
      go_wp2
      go_ret
      exact ⟨rfl, g, Hd.out, Touch.refl _ _, fun k h => .inl h⟩
    · by_cases h2 : D.lasts < D.lines.length
      · have e0 : cutE D n = 12 := by unfold cutE; rw [if_neg (by omega), if_pos h2]
        have e1 : cutD D n = D := by unfold cutD; rw [e0, if_neg (by decide)]
        have h2I : (D.lasts : Int) < (D.lines.length : Int) := by omega
        rw [e0, e1]
        clear e0 e1
        go_enter Try.func19, Try.ntmps19
        go_wp2_with fail
        go_region
        go_wp2
        go_ret
        exact ⟨rfl, g, Hd.out.keep fun _ _ => rfl, ⟨rfl, rfl, rfl, Nat.le_refl _, fun _ _ _ => rfl⟩, fun k h => .inl h⟩
      · have e0 : cutE D n = 0 := by unfold cutE; rw [if_neg (by omega), if_neg h2]
        have e1 : cutD D n = ⟨D.room, D.lines.take n.toNat, n.toNat⟩ := by unfold cutD; rw [e0, if_pos rfl]
        have h2I : ¬ (D.lasts : Int) < (D.lines.length : Int) := by omega
        rw [e0, e1]
        obtain ⟨m, rfl⟩ := Int.eq_ofNat_of_zero_le (show 0 ≤ n by omega)
        rw [Int.toNat_natCast]
        have hm : m ≤ D.lines.length := by omega
        clear e0 e1
        go_enter Try.func19, Try.ntmps19
        go_wp2_with fail
        go_region
        have HdD := hide (Hd.out.drews 1)
        obtain ⟨W0, hW0⟩ : ∃ W0, w.drew = W0 := ⟨_, rfl⟩
        have hb0 := hide (show Below w.heap.size w w.drew from ⟨rfl, rfl, rfl, Nat.le_refl _, fun _ _ => rfl⟩)
        have Hd0 := hide (show IsRD w.drew B p g D from Hd.out.keep fun _ _ => rfl)
        have HB0 : Hid (B ≤ w.drew.heap.size) := HB.out
        have c1' : w.drew.cell? ⟨p, 1, none⟩ = _ := c1
        have c2' : w.drew.cell? ⟨p, 2, none⟩ = _ := c2
        have f1' : w.drew.frozen? ⟨p, 1, none⟩ = false := f1
        have f2' : w.drew.frozen? ⟨p, 2, none⟩ = false := f2
        have Hrow0 : Hid (w.drew.ownsRow B 9 1 (.slice a D.lines.length cap) D.lines.length (D.lines.map Value.string)) := Hrow.out
        have hplt' : p < w.drew.heap.size := hplt
        rw [hW0] at hb0 Hd0 HB0 c1' c2' f1' f2' Hrow0 hplt' ⊢
        clear hW0 c0 c1 c2 f1 f2 Hrow Hd HdD hplt HB
        have c1 := c1'
        have c2 := c2'
        have f1 := f1'
        have f2 := f2'
        have hplt := hplt'
        have hrow0 : (W0.alloc (.cells #[] 9)).ownsRow W0.heap.size 9 1 (.slice (some ⟨W0.heap.size, 0, none⟩) 0 0) 0 [] := World.ownsRow_lit W0 #[] 0 (Nat.le_refl _) (by unfold maxLen; omega) rfl
        clear c1' c2' f1' f2' hplt'
        cases a with
        | none =>
          rcases Hrow0.out.2 with ⟨e, h00⟩ | ⟨g', cap', cur, e, _⟩
          · simp only [Value.slice.injEq, true_and] at e
            obtain ⟨hl0, rfl⟩ := e
            obtain rfl : m = 0 := by omega
            have hln : D.lines = [] := List.eq_nil_of_length_eq_zero hl0
            have hsrc : Src (W0.alloc (.cells #[] 9)) (.slice none 0 0) 0 ((D.lines.take 0).map Value.string) := .inl ⟨rfl, rfl, rfl⟩
            rw [hl0] at c1
            have d1 := fun o => Lib.cell?_alloc_some o c1
            have hMc : ((D.lines.take 0).map Value.string).length = 0 * 1 := by simp
            go_wp2_with (at_builtin; refine wpList_append_src rfl _ _ 40 rfl W0.heap.size 9 i0 (.string ⟨#[]⟩) 1 16 Try.underlying40 hi0 hz0 hz1 hz2 rfl (by decide) _ _ _ rfl hrow0 _ 0 _ rfl hsrc hMc (by intro u hu; obtain ⟨x, _, rfl⟩ := List.mem_map.1 hu; rfl) (by unfold maxLen; omega) (by omega) (by simp) ?_)
            intro v1 w1 hown1 hgrow1
            have hown1' : w1.ownsRow W0.heap.size 9 1 v1 0 ((D.lines.take 0).map Value.string) := by simpa using hown1
            clear hown1
            have hb1 : Below W0.heap.size W0 w1 := ((Below.refl _ W0).alloc (Nat.le_refl _) _).grown hgrow1 (by simp) (fun j hj => (hrow0.lt j hj).1)
            have e1 := (hb1.cell (p := ⟨p, 1, none⟩) hplt).trans c1
            have l1 : w1.frozen? ⟨p, 1, none⟩ = false := (hb1.frozen (p := ⟨p, 1, none⟩) hplt).trans f1
            have e2 : w1.cell? ⟨p, 2, none⟩ = some (.int .i64 (D.lasts : Int)) := (hb1.cell (p := ⟨p, 2, none⟩) hplt).trans c2
            have l2 : w1.frozen? ⟨p, 2, none⟩ = false := (hb1.frozen (p := ⟨p, 2, none⟩) hplt).trans f2
            obtain ⟨a2, cap2, rfl⟩ := ownsRow_slice hown1'
            have hlt : (D.lines.take 0).length = 0 := by simp
            have hrs : w1.ownsRow W0.heap.size 9 1 (.slice a2 0 cap2) (D.lines.take 0).length ((D.lines.take 0).map Value.string) := by rw [hlt]; exact hown1'
            obtain ⟨I, T, G⟩ := rd_put (n := 0) Hd0.out HB0.out hb1 hrs (by omega) (by have := Hd0.out.ok.fits; have := bytesOf_take_le D.lines 0; omega)
            obtain ⟨W1, hW1⟩ : ∃ W1, w1.setCell ⟨p, 1, none⟩ (.slice a2 0 cap2) = W1 := ⟨_, rfl⟩
            rw [hW1] at I T
            have II := hide I
            have TT := hide T
            have GG := hide G
            have q2 : W1.cell? ⟨p, 2, none⟩ = some (.int .i64 (D.lasts : Int)) := by rw [← hW1]; exact (World.cell?_setCell_other _ _ _ _ (by simp)).trans e2
            have m2 : W1.frozen? ⟨p, 2, none⟩ = false := by rw [← hW1, World.frozen?_setCell]; exact l2
            clear I T G hrs hown1' hgrow1 hsrc hrow0 d1
            go_wp2_with fail
            go_ret
            exact ⟨rfl, _, II.out, TT.out.of_touch hb0.out, fun k e => (GG.out k e).imp id fun h => Nat.le_trans hb0.out.size h⟩
          · simp at e
        | some ad =>
          have hcl : D.lines.length ≤ cap := by
            rcases Hrow0.out.2 with ⟨e, h00⟩ | ⟨g', cap', cur, e, _, _, h3, _⟩
            · simp at e
            · simp only [Value.slice.injEq] at e
              omega
          have hadd : ad = ⟨ad.block, 0, none⟩ := by
            rcases Hrow0.out.2 with ⟨e, h00⟩ | ⟨g', cap', cur, e, _⟩
            · simp at e
            · simp only [Value.slice.injEq, Option.some.injEq] at e
              rw [e.1]
          obtain ⟨gb, hgb⟩ : ∃ gb, ad.block = gb := ⟨_, rfl⟩
          rw [hgb] at hadd
          subst hadd
          have hsrc : Src (W0.alloc (.cells #[] 9)) (.slice (some ⟨gb, 0, none⟩) m cap) m ((D.lines.take m).map Value.string) :=
            src_strs Hrow0.out hm (by simp) ((Below.refl _ W0).alloc (Nat.le_refl _) _)
          have d1 := fun o => Lib.cell?_alloc_some o c1
          have hMc : ((D.lines.take m).map Value.string).length = m * 1 := by simp; omega
          go_wp2_with (at_builtin; refine wpList_append_src rfl _ _ 40 rfl W0.heap.size 9 i0 (.string ⟨#[]⟩) 1 16 Try.underlying40 hi0 hz0 hz1 hz2 rfl (by decide) _ _ _ rfl hrow0 _ m _ rfl hsrc hMc (by intro u hu; obtain ⟨x, _, rfl⟩ := List.mem_map.1 hu; rfl) (by unfold maxLen; omega) (by omega) (by simp) ?_)
          intro v1 w1 hown1 hgrow1
          have hown1' : w1.ownsRow W0.heap.size 9 1 v1 m ((D.lines.take m).map Value.string) := by simpa using hown1
          clear hown1
          have hb1 : Below W0.heap.size W0 w1 := ((Below.refl _ W0).alloc (Nat.le_refl _) _).grown hgrow1 (by simp) (fun j hj => (hrow0.lt j hj).1)
          have e1 := (hb1.cell (p := ⟨p, 1, none⟩) hplt).trans c1
          have l1 : w1.frozen? ⟨p, 1, none⟩ = false := (hb1.frozen (p := ⟨p, 1, none⟩) hplt).trans f1
          have e2 : w1.cell? ⟨p, 2, none⟩ = some (.int .i64 (D.lasts : Int)) := (hb1.cell (p := ⟨p, 2, none⟩) hplt).trans c2
          have l2 : w1.frozen? ⟨p, 2, none⟩ = false := (hb1.frozen (p := ⟨p, 2, none⟩) hplt).trans f2
          obtain ⟨a2, cap2, rfl⟩ := ownsRow_slice hown1'
          have hlt : (D.lines.take m).length = m := by simp; omega
          have hrs : w1.ownsRow W0.heap.size 9 1 (.slice a2 m cap2) (D.lines.take m).length ((D.lines.take m).map Value.string) := by rw [hlt]; exact hown1'
          obtain ⟨I, T, G⟩ := rd_put (n := m) Hd0.out HB0.out hb1 hrs (by omega) (by have := Hd0.out.ok.fits; have := bytesOf_take_le D.lines m; omega)
          obtain ⟨W1, hW1⟩ : ∃ W1, w1.setCell ⟨p, 1, none⟩ (.slice a2 m cap2) = W1 := ⟨_, rfl⟩
          rw [hW1] at I T
          have II := hide I
          have TT := hide T
          have GG := hide G
          have q2 : W1.cell? ⟨p, 2, none⟩ = some (.int .i64 (D.lasts : Int)) := by rw [← hW1]; exact (World.cell?_setCell_other _ _ _ _ (by simp)).trans e2
          have m2 : W1.frozen? ⟨p, 2, none⟩ = false := by rw [← hW1, World.frozen?_setCell]; exact l2
          clear I T G hrs hown1' hgrow1 hsrc hrow0 d1
          go_wp2_with fail
          go_ret
          exact ⟨rfl, _, II.out, TT.out.of_touch hb0.out, fun k e => (GG.out k e).imp id fun h => Nat.le_trans hb0.out.size h⟩
end Go.Proofs.Ytheaifgoleklpaa
