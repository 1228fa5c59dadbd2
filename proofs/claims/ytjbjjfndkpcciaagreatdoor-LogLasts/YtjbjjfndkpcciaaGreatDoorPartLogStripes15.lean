/- Own work: the parts G13, G14, ScopeIn, G15 of the proof, laid together. -/
import Derived.Test.YtjbjjfndkpcciaaGreatDoorPartLogStripes14
import Derived.Test.YtjbjjfndkpcciaaGreatDoorPartLogStripes2
import Derived.Scope
/- What maint does to each segment. Own work; no statement. -/
set_option linter.unusedSimpArgs false
set_option linter.unusedVariables false
namespace Go.Proofs.YtjbjjfndkpcciaaGreatDoor
open Go.RowKit Go.Shelf Go.Sort

/-- The table of powers lies there, whatever turns from B on. -/
def PowF (B : Nat) (w : World) : Prop := ∀ W, Below B w W → Pow W
theorem PowF.pow {B : Nat} {w : World} (h : PowF B w) : Pow w := h w (Below.refl _ w)
theorem PowF.below {B : Nat} {w w' : World} (h : PowF B w) (hb : Below B w w') : PowF B w' := fun W hW => h W (hb.trans hW)
theorem Pow.from {w0 w : World} (h : Pow w0) (hb : Below w0.heap.size w0 w) : PowF w0.heap.size w := fun W hW => h.below (hb.trans hW)

/-- A number that a function has caught. -/
abbrev Caught (W : World) (b : Nat) (x : Int) : Prop := W.heap[b]? = some (.cells #[.int .i64 x] 3 (0, 0))
theorem Caught.cell {W : World} {b : Nat} {x : Int} (h : Caught W b x) : W.cell? ⟨b, 0, none⟩ = some (.int .i64 x) := by simpa using cellsAt h 0
theorem Caught.touch {W W' : World} {b : Nat} {x : Int} {B : Nat} {m : SegM} {S : SegD} (h : Caught W b x) (hX : IsSegX W B m S) (t : Touch m.on W W') : Caught W' b x :=
  (t.block _ (ltAt h) (hX.not_on h ⟨by decide, by decide, by decide, by decide⟩)).trans h
theorem caught_still (b n : Nat) (x : Int) (hb : b < n) : Still n fun W => Caught W b x := fun W W' i c f h hi hc t => (t.block _ (ltAt h) (by omega)).trans h

theorem callTrim (B b : Nat) (pos : Int) (s : SegM) (S : SegD) (W : World) (hX : IsSeg W B s S) (hB : B ≤ W.heap.size) (hb : Caught W b pos) (hp : Pow W) :
    Calls Tryz.prog 145 #[.pointer (some ⟨s.p, 0, none⟩), .pointer (some ⟨b, 0, none⟩)] W fun x W' => ∃ m', x = .returned (.tuple #[.pointer (some ⟨m'.p, 0, none⟩), .int .i64 0]) ∧ IsSeg W' B m' (segTrimS S pos) ∧ (∀ x, m'.on x → s.on x ∨ W.heap.size ≤ x) ∧ Touch s.on W W' ∧ (m'.p = s.p ∧ m'.dp = s.dp) ∧ Caught W' b pos := by
  have C := hide (segTrim_calls B s S pos W hX hB hp)
  have hc := hb.cell
  have Hb := hide hb
  have HX := hide hX
  clear hX hb
  go_enter Tryz.func145, Tryz.ntmps145
  go_wp2_with fail
  refine C.out.mono ?_
  rintro e w2 ⟨rfl, m', h1, h2, h3, h4, h5, h6⟩
  have H4 := hide h4
  have H5 := hide h5
  clear h4 h5 C hc
  go_wp2_with fail
  go_ret2
  exact ⟨m', by rw [h1]; rfl, H4.out, h6, H5.out, ⟨h1, h2⟩, Hb.out.touch HX.out.x H5.out⟩

/-- A segment is sealed of an epoch, where it is not yet. -/
def sealTo (k : Int) (S : SegD) : SegD := if k ≤ S.sealed then S else segSealS S k
set_option maxHeartbeats 1000000 in
theorem callSeal (B b : Nat) (k : Int) (s : SegM) (S : SegD) (W : World) (hX : IsSeg W B s S) (hB : B ≤ W.heap.size) (hb : Caught W b k) (hp : Pow W) (he : ¬ k ≤ S.sealed → segSealE S k = 0) :
    Calls Tryz.prog 134 #[.pointer (some ⟨s.p, 0, none⟩), .pointer (some ⟨b, 0, none⟩)] W fun x W' => ∃ m', x = .returned (.tuple #[.pointer (some ⟨m'.p, 0, none⟩), .int .i64 0]) ∧ IsSeg W' B m' (sealTo k S) ∧ (∀ x, m'.on x → s.on x ∨ W.heap.size ≤ x) ∧ Touch s.on W W' ∧ (m'.p = s.p ∧ m'.dp = s.dp) ∧ Caught W' b k := by
  have C1 := hide (fun n => (segSealed_calls B s S (W.drewN n) (hX.keep (drewsB W n))).mono fun e w' ⟨h1, h2⟩ => (⟨h1, 0, h2⟩ : e = Ending.returned (.int .i64 S.sealed) ∧ ∃ m, w' = (W.drewN n).drewN m))
  have C2 := hide (fun n => segSeal_calls B s S k (W.drewN n) (hX.keep (drewsB W n)) hB (hp.below (drewsB W n)))
  have hc := hb.cell
  have Hb := hide hb
  have HX := hide hX
  unfold sealTo
  clear hX hb
  by_cases h : k ≤ S.sealed
  · rw [if_pos h]
    go_enter Tryz.func134, Tryz.ntmps134
    go_wp2_with fail
    go_quiet (first | (go_at_call 135; refine Calls.quiet_of (C1.out _)))
    go_wp2_with fail
    go_ret2
    exact ⟨s, rfl, HX.out.keep (drewsB W _), fun x h => .inl h, touch_new (drewsB W _), ⟨rfl, rfl⟩, Hb.out⟩
  · rw [if_neg h]
    have he := he h
    rw [he] at C2
    go_enter Tryz.func134, Tryz.ntmps134
    go_wp2_with fail
    go_quiet (first | (go_at_call 135; refine Calls.quiet_of (C1.out _)))
    go_wp2_with fail
    refine (C2.out nq).mono ?_
    rintro e w2 ⟨rfl, m', h1, h2, h3, h4, h5, h6⟩
    have H4 := hide h4
    have H5 := hide (Touch.of_touch h5 (drewsB W nq))
    clear h4 h5 C1 C2 hc
    go_wp2_with fail
    go_ret2
    exact ⟨m', by rw [h1]; rfl, H4.out, h6, H5.out, ⟨h1, h2⟩, Hb.out.touch HX.out.x H5.out⟩

theorem callTwin (B : Nat) (s : SegM) (S : SegD) (W : World) (hX : IsSegX W B s S) (hB : B ≤ W.heap.size) :
    Calls Tryz.prog 94 #[.pointer (some ⟨s.p, 0, none⟩)] W fun x W' => ∃ m', x = .returned (.tuple #[.pointer (some ⟨m'.p, 0, none⟩), .int .i64 0]) ∧ IsSegX W' B m' S ∧ (∀ x, m'.on x → s.on x ∨ W.heap.size ≤ x) ∧ Touch s.on W W' ∧ (∀ x, m'.on x → W.heap.size ≤ x) := by
  have C := hide (segTwin_calls B s S W hX)
  clear hX
  go_enter Tryz.func94, Tryz.ntmps94
  go_wp2_with fail
  refine C.out.mono ?_
  rintro e w2 ⟨m', rfl, hI, hb⟩
  have HI := hide hI
  have Hb := hide hb
  clear hI hb C
  go_wp2_with fail
  go_ret2
  exact ⟨m', rfl, HI.out.lower hB, fun x h => .inr (HI.out.types h).1, touch_new Hb.out, fun x h => (HI.out.types h).1⟩

theorem callCut (B b : Nat) (pos : Int) (s : SegM) (S : SegD) (W : World) (hX : IsSeg W B s S) (hB : B ≤ W.heap.size) (hb : Caught W b pos) (hp : Pow W) (he : segCutE S pos = 0) :
    Calls Tryz.prog 180 #[.pointer (some ⟨s.p, 0, none⟩), .pointer (some ⟨b, 0, none⟩)] W fun x W' => ∃ m', x = .returned (.tuple #[.pointer (some ⟨m'.p, 0, none⟩), .int .i64 0]) ∧ IsSeg W' B m' (segCutS S pos) ∧ (∀ x, m'.on x → s.on x ∨ W.heap.size ≤ x) ∧ Touch s.on W W' ∧ (m'.p = s.p ∧ m'.dp = s.dp) ∧ Caught W' b pos := by
  have C := hide (segCut_calls B s S pos W hX hB hp)
  rw [he] at C
  have hc := hb.cell
  have Hb := hide hb
  have HX := hide hX
  clear hX hb
  go_enter Tryz.func180, Tryz.ntmps180
  go_wp2_with fail
  refine C.out.mono ?_
  rintro e w2 ⟨rfl, m', h1, h2, h3, h4, h5, h6⟩
  have H4 := hide h4
  have H5 := hide h5
  clear h4 h5 C hc
  go_wp2_with fail
  go_ret2
  exact ⟨m', by rw [h1]; rfl, H4.out, h6, H5.out, ⟨h1, h2⟩, Hb.out.touch HX.out.x H5.out⟩

theorem callNew (b : Nat) (room : Int) (q : Option Addr) (W : World) (hb : Caught W b room) (h1 : 1 ≤ room) (h2 : room ≤ 1048576) :
    Calls Tryz.prog 88 #[.pointer q, .pointer (some ⟨b, 0, none⟩)] W fun x W' => ∃ m', x = .returned (.tuple #[.pointer (some ⟨m'.p, 0, none⟩), .int .i64 0]) ∧ IsSeg W' W.heap.size m' (emptyS ⟨room, [], 0⟩) ∧ Below W.heap.size W W' := by
  have hc := hb.cell
  have C1 := hide (diskNew_calls room W h1 h2)
  clear hb
  go_enter Tryz.func88, Tryz.ntmps88
  go_wp2_with fail
  refine C1.out.mono ?_
  rintro e w2 ⟨rfl, d2, b2⟩
  have C2 := hide (segOpen_on W w2 _ _ _ (emptyS ⟨room, [], 0⟩) d2 b2 rfl)
  clear d2 C1 hc
  go_wp2_with fail
  refine C2.out.mono ?_
  rintro e w3 ⟨q, dg, sg, c, rfl, I3, b3, -⟩
  go_wp2_with fail
  go_ret2
  exact ⟨_, rfl, I3, b3⟩

set_option maxHeartbeats 1000000 in
set_option maxRecDepth 100000 in
theorem segsTrim_calls (B : Nat) (pos : Int) (ss : List SegM) (Ss : List SegD) (w : World) (hs : Segs w B ss Ss) (hB : B ≤ w.heap.size) (hok : ∀ S ∈ Ss, S.ok) (hp : PowF B w) (p0 p1 p2 p3 p4 p5 p6 p7 : Nat) (hps : ptrs ss = [p0, p1, p2, p3, p4, p5, p6, p7]) :
    Calls Tryz.prog 83 #[.agg #[.pointer (some ⟨p0, 0, none⟩), .pointer (some ⟨p1, 0, none⟩), .pointer (some ⟨p2, 0, none⟩), .pointer (some ⟨p3, 0, none⟩), .pointer (some ⟨p4, 0, none⟩), .pointer (some ⟨p5, 0, none⟩), .pointer (some ⟨p6, 0, none⟩), .pointer (some ⟨p7, 0, none⟩)], .int .i64 pos] w fun x w' =>
      ∃ ss', x = .returned (.tuple #[]) ∧ Segs w' B ss' (Ss.map (fun S => segTrimS S pos)) ∧ ss'.length = 8 ∧ ptrs ss' = ptrs ss ∧ (∀ x, onAll ss' x → onAll ss x ∨ w.heap.size ≤ x) ∧ Touch (onAll ss) w w' := by
  have h8 : ss.length = 8 := by have := congrArg List.length hps; simpa [ptrs] using this
  obtain ⟨W0, hW0⟩ : ∃ W0, (w.alloc (.cells #[.pointer (some ⟨p0, 0, none⟩), .pointer (some ⟨p1, 0, none⟩), .pointer (some ⟨p2, 0, none⟩), .pointer (some ⟨p3, 0, none⟩), .pointer (some ⟨p4, 0, none⟩), .pointer (some ⟨p5, 0, none⟩), .pointer (some ⟨p6, 0, none⟩), .pointer (some ⟨p7, 0, none⟩)] 83)).alloc (.cells #[.int .i64 pos] 3) = W0 := ⟨_, rfl⟩
  have B0 : Below w.heap.size w W0 := by rw [← hW0]; exact ((Below.refl _ w).alloc (Nat.le_refl _) _).alloc (by simp) _
  have s0 : W0.heap.size = w.heap.size + 2 := by rw [← hW0]; simp
  have x0 : Caught W0 (w.heap.size + 1) pos := by
    rw [← hW0]
    have := World.alloc_heap_new (w.alloc (.cells #[.pointer (some ⟨p0, 0, none⟩), .pointer (some ⟨p1, 0, none⟩), .pointer (some ⟨p2, 0, none⟩), .pointer (some ⟨p3, 0, none⟩), .pointer (some ⟨p4, 0, none⟩), .pointer (some ⟨p5, 0, none⟩), .pointer (some ⟨p6, 0, none⟩), .pointer (some ⟨p7, 0, none⟩)] 83)) (.cells #[.int .i64 pos] 3)
    rwa [World.size_alloc] at this
  have C := hide (eachSegs_calls 145 #[.pointer (some ⟨w.heap.size + 1, 0, none⟩)] (enters_of Tryz.func145 (by kernel_rfl) rfl) (fun S => segTrimS S pos) (fun s m' => m'.p = s.p ∧ m'.dp = s.dp) (fun W => Caught W (w.heap.size + 1) pos) B ss Ss W0 (hs.keep B0) (by omega) p0 p1 p2 p3 p4 p5 p6 p7 hps (fun W hW => keepB x0 hW)
    (caught_still _ _ _ (by omega))
    (fun W k s S hs1 hS1 hz hb hX h => (callTrim B (w.heap.size + 1) pos s S W (hX.seg (hok S (List.mem_of_getElem? hS1))) (by omega) h ((hp.below (B0.mono hB)).below hb).pow).mono fun x W' ⟨m', h1, h2, h3, h4, h5, h6⟩ => ⟨m', h1, h2.x, h3, h4, h5, h6⟩))
  have HW := hide hW0
  clear hW0 x0 hs
  go_enter Tryz.func83, Tryz.ntmps83
  go_wp2_with fail
  rw [HW.out]
  refine C.out.mono ?_
  rintro e w1 ⟨ss', rfl, hs1, h81, hn1, t1, hR, -⟩
  have hpp : ptrs ss' = ptrs ss := by
    apply List.ext_getElem?
    intro i
    unfold ptrs
    rw [List.getElem?_map, List.getElem?_map]
    rcases Nat.lt_or_ge i 8 with h | h
    · obtain ⟨s, e1⟩ : ∃ s, ss[i]? = some s := ⟨_, List.getElem?_eq_getElem (by omega)⟩
      obtain ⟨s', e2⟩ : ∃ s', ss'[i]? = some s' := ⟨_, List.getElem?_eq_getElem (by omega)⟩
      rw [e1, e2, Option.map_some, Option.map_some, (hR i s s' e1 e2).1]
    · rw [List.getElem?_eq_none (by omega), List.getElem?_eq_none (by omega)]
  have Hs := hide hs1
  have Hn := hide (fun x hx => (hn1 x hx).imp (fun h => h) fun h => (by omega : w.heap.size ≤ x))
  have HT := hide (t1.of_touch B0)
  have Hpp := hide hpp
  clear hs1 hn1 t1 hR C hpp
  go_wp2_with fail
  go_end0
  exact ⟨ss', rfl, Hs.out, h81, Hpp.out, Hn.out, HT.out⟩

set_option maxHeartbeats 1000000 in
set_option maxRecDepth 100000 in
theorem segsSeal_calls (B : Nat) (pos : Int) (ss : List SegM) (Ss : List SegD) (w : World) (hs : Segs w B ss Ss) (hB : B ≤ w.heap.size) (hok : ∀ S ∈ Ss, S.ok) (hp : PowF B w) (he : ∀ S ∈ Ss, ¬ pos ≤ S.sealed → segSealE S pos = 0) (p0 p1 p2 p3 p4 p5 p6 p7 : Nat) (hps : ptrs ss = [p0, p1, p2, p3, p4, p5, p6, p7]) :
    Calls Tryz.prog 74 #[.agg #[.pointer (some ⟨p0, 0, none⟩), .pointer (some ⟨p1, 0, none⟩), .pointer (some ⟨p2, 0, none⟩), .pointer (some ⟨p3, 0, none⟩), .pointer (some ⟨p4, 0, none⟩), .pointer (some ⟨p5, 0, none⟩), .pointer (some ⟨p6, 0, none⟩), .pointer (some ⟨p7, 0, none⟩)], .int .i64 pos] w fun x w' =>
      ∃ ss', x = .returned (.int .i64 0) ∧ Segs w' B ss' (Ss.map (sealTo pos)) ∧ ss'.length = 8 ∧ ptrs ss' = ptrs ss ∧ (∀ x, onAll ss' x → onAll ss x ∨ w.heap.size ≤ x) ∧ Touch (onAll ss) w w' := by
  have h8 : ss.length = 8 := by have := congrArg List.length hps; simpa [ptrs] using this
  obtain ⟨W0, hW0⟩ : ∃ W0, (w.alloc (.cells #[.pointer (some ⟨p0, 0, none⟩), .pointer (some ⟨p1, 0, none⟩), .pointer (some ⟨p2, 0, none⟩), .pointer (some ⟨p3, 0, none⟩), .pointer (some ⟨p4, 0, none⟩), .pointer (some ⟨p5, 0, none⟩), .pointer (some ⟨p6, 0, none⟩), .pointer (some ⟨p7, 0, none⟩)] 83)).alloc (.cells #[.int .i64 pos] 3) = W0 := ⟨_, rfl⟩
  have B0 : Below w.heap.size w W0 := by rw [← hW0]; exact ((Below.refl _ w).alloc (Nat.le_refl _) _).alloc (by simp) _
  have s0 : W0.heap.size = w.heap.size + 2 := by rw [← hW0]; simp
  have x0 : Caught W0 (w.heap.size + 1) pos := by
    rw [← hW0]
    have := World.alloc_heap_new (w.alloc (.cells #[.pointer (some ⟨p0, 0, none⟩), .pointer (some ⟨p1, 0, none⟩), .pointer (some ⟨p2, 0, none⟩), .pointer (some ⟨p3, 0, none⟩), .pointer (some ⟨p4, 0, none⟩), .pointer (some ⟨p5, 0, none⟩), .pointer (some ⟨p6, 0, none⟩), .pointer (some ⟨p7, 0, none⟩)] 83)) (.cells #[.int .i64 pos] 3)
    rwa [World.size_alloc] at this
  have C := hide (eachSegs_calls 134 #[.pointer (some ⟨w.heap.size + 1, 0, none⟩)] (enters_of Tryz.func134 (by kernel_rfl) rfl) (sealTo pos) (fun s m' => m'.p = s.p ∧ m'.dp = s.dp) (fun W => Caught W (w.heap.size + 1) pos) B ss Ss W0 (hs.keep B0) (by omega) p0 p1 p2 p3 p4 p5 p6 p7 hps (fun W hW => keepB x0 hW)
    (caught_still _ _ _ (by omega))
    (fun W k s S hs1 hS1 hz hb hX h => (callSeal B (w.heap.size + 1) pos s S W (hX.seg (hok S (List.mem_of_getElem? hS1))) (by omega) h ((hp.below (B0.mono hB)).below hb).pow (he S (List.mem_of_getElem? hS1))).mono fun x W' ⟨m', h1, h2, h3, h4, h5, h6⟩ => ⟨m', h1, h2.x, h3, h4, h5, h6⟩))
  have HW := hide hW0
  clear hW0 x0 hs
  go_enter Tryz.func74, Tryz.ntmps74
  go_wp2_with fail
  rw [HW.out]
  refine C.out.mono ?_
  rintro e w1 ⟨ss', rfl, hs1, h81, hn1, t1, hR, -⟩
  have hpp : ptrs ss' = ptrs ss := by
    apply List.ext_getElem?
    intro i
    unfold ptrs
    rw [List.getElem?_map, List.getElem?_map]
    rcases Nat.lt_or_ge i 8 with h | h
    · obtain ⟨s, e1⟩ : ∃ s, ss[i]? = some s := ⟨_, List.getElem?_eq_getElem (by omega)⟩
      obtain ⟨s', e2⟩ : ∃ s', ss'[i]? = some s' := ⟨_, List.getElem?_eq_getElem (by omega)⟩
      rw [e1, e2, Option.map_some, Option.map_some, (hR i s s' e1 e2).1]
    · rw [List.getElem?_eq_none (by omega), List.getElem?_eq_none (by omega)]
  have Hs := hide hs1
  have Hn := hide (fun x hx => (hn1 x hx).imp (fun h => h) fun h => (by omega : w.heap.size ≤ x))
  have HT := hide (t1.of_touch B0)
  have Hpp := hide hpp
  clear hs1 hn1 t1 hR C hpp
  have hq8 := h81
  obtain ⟨q0, q1, q2, q3, q4, q5, q6, q7, hq9⟩ := eight_of (l := ptrs ss') (by simp [ptrs, h81])
  have ef8 : (fillV (adrs (ptrs ss'))).toArray = #[.pointer (some ⟨q0, 0, none⟩), .pointer (some ⟨q1, 0, none⟩), .pointer (some ⟨q2, 0, none⟩), .pointer (some ⟨q3, 0, none⟩), .pointer (some ⟨q4, 0, none⟩), .pointer (some ⟨q5, 0, none⟩), .pointer (some ⟨q6, 0, none⟩), .pointer (some ⟨q7, 0, none⟩)] := by rw [hq9]; rfl
  rw [ef8]
  clear ef8 hq9
  go_wp2_with fail
  go_ret
  exact ⟨ss', rfl, Hs.out.keep (box_below w1 _), h81, Hpp.out, Hn.out, HT.out.new (box_below w1 _)⟩

end Go.Proofs.YtjbjjfndkpcciaaGreatDoor

/- maint's twins, cut, newSegments. Own work; no statement. -/
set_option linter.unusedSimpArgs false
set_option linter.unusedVariables false
namespace Go.Proofs.YtjbjjfndkpcciaaGreatDoor
open Go.RowKit Go.Shelf Go.Sort

set_option maxHeartbeats 1000000 in
set_option maxRecDepth 100000 in
/-- Twins of all: in memory of their own; the others are as they were. -/
theorem segsTwins_calls (B : Nat) (ss : List SegM) (Ss : List SegD) (w : World) (hs : Segs w B ss Ss) (hB : B ≤ w.heap.size) (p0 p1 p2 p3 p4 p5 p6 p7 : Nat) (hps : ptrs ss = [p0, p1, p2, p3, p4, p5, p6, p7]) :
    Calls Tryz.prog 44 #[.agg #[.pointer (some ⟨p0, 0, none⟩), .pointer (some ⟨p1, 0, none⟩), .pointer (some ⟨p2, 0, none⟩), .pointer (some ⟨p3, 0, none⟩), .pointer (some ⟨p4, 0, none⟩), .pointer (some ⟨p5, 0, none⟩), .pointer (some ⟨p6, 0, none⟩), .pointer (some ⟨p7, 0, none⟩)]] w fun x w' =>
      ∃ ss', x = .returned (.agg (fillV (adrs (ptrs ss'))).toArray) ∧ Segs w' B ss' Ss ∧ ss'.length = 8 ∧ (∀ x, onAll ss' x → w.heap.size ≤ x) ∧ Touch (onAll ss) w w' := by
  have h8 : ss.length = 8 := by have := congrArg List.length hps; simpa [ptrs] using this
  obtain ⟨W0, hW0⟩ : ∃ W0, (w.alloc (.cells #[.pointer (some ⟨p0, 0, none⟩), .pointer (some ⟨p1, 0, none⟩), .pointer (some ⟨p2, 0, none⟩), .pointer (some ⟨p3, 0, none⟩), .pointer (some ⟨p4, 0, none⟩), .pointer (some ⟨p5, 0, none⟩), .pointer (some ⟨p6, 0, none⟩), .pointer (some ⟨p7, 0, none⟩)] 83)).alloc (.cells #[.pointer none, .pointer none, .pointer none, .pointer none, .pointer none, .pointer none, .pointer none, .pointer none] 83) = W0 := ⟨_, rfl⟩
  have B0 : Below w.heap.size w W0 := by rw [← hW0]; exact ((Below.refl _ w).alloc (Nat.le_refl _) _).alloc (by simp) _
  have s0 : W0.heap.size = w.heap.size + 2 := by rw [← hW0]; simp
  have x0 : Box8 W0 (w.heap.size + 1) [] := by
    rw [← hW0]
    have := World.alloc_heap_new (w.alloc (.cells #[.pointer (some ⟨p0, 0, none⟩), .pointer (some ⟨p1, 0, none⟩), .pointer (some ⟨p2, 0, none⟩), .pointer (some ⟨p3, 0, none⟩), .pointer (some ⟨p4, 0, none⟩), .pointer (some ⟨p5, 0, none⟩), .pointer (some ⟨p6, 0, none⟩), .pointer (some ⟨p7, 0, none⟩)] 83)) (.cells #[.pointer none, .pointer none, .pointer none, .pointer none, .pointer none, .pointer none, .pointer none, .pointer none] 83)
    rwa [World.size_alloc] at this
  have C := hide (eachSegs_calls 94 #[] (enters_of Tryz.func94 (by kernel_rfl) rfl) (fun S => S) (fun s m' => ∀ x, m'.on x → W0.heap.size ≤ x) (fun W => Box8 W (w.heap.size + 1) []) B ss Ss W0 (hs.keep B0) (by omega) p0 p1 p2 p3 p4 p5 p6 p7 hps (fun W hW => keepB x0 hW)
    (fun W W' i c f h hi hc t => (t.block _ (ltAt h) (by omega)).trans h)
    (fun W k s S hs1 hS1 hz hb hX h => (callTwin B s S W hX (by omega)).mono fun x W' ⟨m', h1, h2, h3, h4, h5⟩ => ⟨m', h1, h2, h3, h4, fun x hx => Nat.le_trans hz (h5 x hx), (h4.block _ (ltAt h) (hX.not_on h ⟨by decide, by decide, by decide, by decide⟩)).trans h⟩))
  rw [List.map_id'] at C
  have HW := hide hW0
  clear hW0 x0 hs hps
  go_enter Tryz.func44, Tryz.ntmps44
  go_wp2_with fail
  rw [HW.out]
  refine C.out.mono ?_
  rintro e w1 ⟨ss', rfl, hs1, h81, hn1, t1, hR, y1⟩
  obtain ⟨q0, q1, q2, q3, q4, q5, q6, q7, hq8⟩ := eight_of (l := ptrs ss') (by simp [ptrs, h81])
  have ef8 : (fillV (adrs (ptrs ss'))).toArray = #[.pointer (some ⟨q0, 0, none⟩), .pointer (some ⟨q1, 0, none⟩), .pointer (some ⟨q2, 0, none⟩), .pointer (some ⟨q3, 0, none⟩), .pointer (some ⟨q4, 0, none⟩), .pointer (some ⟨q5, 0, none⟩), .pointer (some ⟨q6, 0, none⟩), .pointer (some ⟨q7, 0, none⟩)] := by rw [hq8]; rfl
  rw [ef8]
  have bA := box_below w1 (.cells #[.pointer (some ⟨q0, 0, none⟩), .pointer (some ⟨q1, 0, none⟩), .pointer (some ⟨q2, 0, none⟩), .pointer (some ⟨q3, 0, none⟩), .pointer (some ⟨q4, 0, none⟩), .pointer (some ⟨q5, 0, none⟩), .pointer (some ⟨q6, 0, none⟩), .pointer (some ⟨q7, 0, none⟩)] 83)
  have y2 := keepB y1 bA
  have Y2 := hide y2
  obtain ⟨⟨e0, e1, e2, e3, e4, e5, e6, e7⟩, g0, g1, g2, g3, g4, g5, g6, g7⟩ := cells8 y2
  have hsA := bA.size
  clear y1 C
  go_wp2_with fail
  have e5 := put8_heap Y2.out (.pointer (some ⟨q0, 0, none⟩)) (.pointer (some ⟨q1, 0, none⟩)) (.pointer (some ⟨q2, 0, none⟩)) (.pointer (some ⟨q3, 0, none⟩)) (.pointer (some ⟨q4, 0, none⟩)) (.pointer (some ⟨q5, 0, none⟩)) (.pointer (some ⟨q6, 0, none⟩)) (.pointer (some ⟨q7, 0, none⟩))
  have t5 := put8_touch (W := w1.alloc (.cells #[.pointer (some ⟨q0, 0, none⟩), .pointer (some ⟨q1, 0, none⟩), .pointer (some ⟨q2, 0, none⟩), .pointer (some ⟨q3, 0, none⟩), .pointer (some ⟨q4, 0, none⟩), .pointer (some ⟨q5, 0, none⟩), .pointer (some ⟨q6, 0, none⟩), .pointer (some ⟨q7, 0, none⟩)] 83)) (b := w.heap.size + 1) (.pointer (some ⟨q0, 0, none⟩)) (.pointer (some ⟨q1, 0, none⟩)) (.pointer (some ⟨q2, 0, none⟩)) (.pointer (some ⟨q3, 0, none⟩)) (.pointer (some ⟨q4, 0, none⟩)) (.pointer (some ⟨q5, 0, none⟩)) (.pointer (some ⟨q6, 0, none⟩)) (.pointer (some ⟨q7, 0, none⟩))
  obtain ⟨W5, hW5⟩ : ∃ W5, put8 (w1.alloc (.cells #[.pointer (some ⟨q0, 0, none⟩), .pointer (some ⟨q1, 0, none⟩), .pointer (some ⟨q2, 0, none⟩), .pointer (some ⟨q3, 0, none⟩), .pointer (some ⟨q4, 0, none⟩), .pointer (some ⟨q5, 0, none⟩), .pointer (some ⟨q6, 0, none⟩), .pointer (some ⟨q7, 0, none⟩)] 83)) (w.heap.size + 1) (.pointer (some ⟨q0, 0, none⟩)) (.pointer (some ⟨q1, 0, none⟩)) (.pointer (some ⟨q2, 0, none⟩)) (.pointer (some ⟨q3, 0, none⟩)) (.pointer (some ⟨q4, 0, none⟩)) (.pointer (some ⟨q5, 0, none⟩)) (.pointer (some ⟨q6, 0, none⟩)) (.pointer (some ⟨q7, 0, none⟩)) = W5 := ⟨_, rfl⟩
  rw [hW5] at e5 t5
  unfold put8 at hW5
  rw [hW5]
  obtain ⟨⟨k0, k1, k2, k3, k4, k5, k6, k7⟩, -⟩ := cells8 e5
  refine bodyPost_ret (v := .agg #[.pointer (some ⟨q0, 0, none⟩), .pointer (some ⟨q1, 0, none⟩), .pointer (some ⟨q2, 0, none⟩), .pointer (some ⟨q3, 0, none⟩), .pointer (some ⟨q4, 0, none⟩), .pointer (some ⟨q5, 0, none⟩), .pointer (some ⟨q6, 0, none⟩), .pointer (some ⟨q7, 0, none⟩)]) (by simp [results, Tryz.f44, go_sem, k0, k1, k2, k3, k4, k5, k6, k7]) rfl ?_
  refine ⟨ss', by rw [ef8], (hs1.keep bA).box8 Y2.out t5, h81, fun x ⟨k, s', hk, hx⟩ => ?_, (((t1.new bA).of_touch B0).upper t5 fun x hx => by rw [hx]; omega)⟩
  have hk8 := (List.getElem?_eq_some_iff.1 hk).1
  have := hR k _ s' (List.getElem?_eq_getElem (by omega : k < ss.length)) hk x hx
  omega

set_option maxHeartbeats 2000000 in
set_option maxRecDepth 100000 in
/-- All are cut, in twins of them. -/
theorem segsCut_calls (B : Nat) (pos : Int) (ss : List SegM) (Ss : List SegD) (w : World) (hs : Segs w B ss Ss) (hB : B ≤ w.heap.size) (hok : ∀ S ∈ Ss, S.ok) (he : ∀ S ∈ Ss, segCutE S pos = 0) (hp : PowF B w) (p0 p1 p2 p3 p4 p5 p6 p7 : Nat) (hps : ptrs ss = [p0, p1, p2, p3, p4, p5, p6, p7]) :
    Calls Tryz.prog 131 #[.agg #[.pointer (some ⟨p0, 0, none⟩), .pointer (some ⟨p1, 0, none⟩), .pointer (some ⟨p2, 0, none⟩), .pointer (some ⟨p3, 0, none⟩), .pointer (some ⟨p4, 0, none⟩), .pointer (some ⟨p5, 0, none⟩), .pointer (some ⟨p6, 0, none⟩), .pointer (some ⟨p7, 0, none⟩)], .int .i64 pos] w fun x w' =>
      ∃ ss', x = .returned (.tuple #[.agg (fillV (adrs (ptrs ss'))).toArray, .int .i64 0]) ∧ Segs w' B ss' (Ss.map fun S => segCutS S pos) ∧ ss'.length = 8 ∧ (∀ x, onAll ss' x → w.heap.size ≤ x) ∧ Touch (onAll ss) w w' := by
  have h8 : ss.length = 8 := by have := congrArg List.length hps; simpa [ptrs] using this
  obtain ⟨W0, hW0⟩ : ∃ W0, ((w.alloc (.cells #[.pointer (some ⟨p0, 0, none⟩), .pointer (some ⟨p1, 0, none⟩), .pointer (some ⟨p2, 0, none⟩), .pointer (some ⟨p3, 0, none⟩), .pointer (some ⟨p4, 0, none⟩), .pointer (some ⟨p5, 0, none⟩), .pointer (some ⟨p6, 0, none⟩), .pointer (some ⟨p7, 0, none⟩)] 83)).alloc (.cells #[.int .i64 pos] 3)).alloc (.cells #[.pointer none, .pointer none, .pointer none, .pointer none, .pointer none, .pointer none, .pointer none, .pointer none] 83) = W0 := ⟨_, rfl⟩
  have B0 : Below w.heap.size w W0 := by rw [← hW0]; exact (((Below.refl _ w).alloc (Nat.le_refl _) _).alloc (by simp) _).alloc (by simp; omega) _
  have s0 : W0.heap.size = w.heap.size + 3 := by rw [← hW0]; simp
  have x1 : Caught W0 (w.heap.size + 1) pos := by
    rw [← hW0]
    have := World.alloc_heap_new (w.alloc (.cells #[.pointer (some ⟨p0, 0, none⟩), .pointer (some ⟨p1, 0, none⟩), .pointer (some ⟨p2, 0, none⟩), .pointer (some ⟨p3, 0, none⟩), .pointer (some ⟨p4, 0, none⟩), .pointer (some ⟨p5, 0, none⟩), .pointer (some ⟨p6, 0, none⟩), .pointer (some ⟨p7, 0, none⟩)] 83)) (.cells #[.int .i64 pos] 3)
    rw [World.size_alloc] at this
    exact (Below.heap_alloc _ _ _ (by simp)).trans this
  have x2 : Box8 W0 (w.heap.size + 2) [] := by
    rw [← hW0]
    have := World.alloc_heap_new ((w.alloc (.cells #[.pointer (some ⟨p0, 0, none⟩), .pointer (some ⟨p1, 0, none⟩), .pointer (some ⟨p2, 0, none⟩), .pointer (some ⟨p3, 0, none⟩), .pointer (some ⟨p4, 0, none⟩), .pointer (some ⟨p5, 0, none⟩), .pointer (some ⟨p6, 0, none⟩), .pointer (some ⟨p7, 0, none⟩)] 83)).alloc (.cells #[.int .i64 pos] 3)) (.cells #[.pointer none, .pointer none, .pointer none, .pointer none, .pointer none, .pointer none, .pointer none, .pointer none] 83)
    rwa [World.size_alloc, World.size_alloc] at this
  have C := hide (segsTwins_calls B ss Ss W0 (hs.keep B0) (by omega) p0 p1 p2 p3 p4 p5 p6 p7 hps)
  have hlt : ∀ x, onAll ss x → x < w.heap.size ∧ B ≤ x := fun x hx => ⟨(hs.on hx).2, (hs.on hx).1⟩
  have HW := hide hW0
  clear hW0 hs hps
  go_enter Tryz.func131, Tryz.ntmps131
  go_wp2_with fail
  simp only [Nat.add_assoc, Nat.reduceAdd]
  rw [HW.out]
  refine C.out.mono ?_
  rintro e w1 ⟨ts, rfl, ht1, h81, hn1, t1⟩
  have z1 : Caught w1 (w.heap.size + 1) pos := (t1.block _ (ltAt x1) fun h => by have := (hlt _ h).1; omega).trans x1
  have z2 : Box8 w1 (w.heap.size + 2) [] := (t1.block _ (ltAt x2) fun h => by have := (hlt _ h).1; omega).trans x2
  have B1 : Below B W0 w1 := t1.below (by omega) fun x _ h => (hlt x h).2
  have t01 : Touch (onAll ss) w w1 := t1.of_touch B0
  have s1 := t1.size
  obtain ⟨r0, r1, r2, r3, r4, r5, r6, r7, hq8⟩ := eight_of (l := ptrs ts) (by simp [ptrs, h81])
  have ef8 : (fillV (adrs (ptrs ts))).toArray = #[.pointer (some ⟨r0, 0, none⟩), .pointer (some ⟨r1, 0, none⟩), .pointer (some ⟨r2, 0, none⟩), .pointer (some ⟨r3, 0, none⟩), .pointer (some ⟨r4, 0, none⟩), .pointer (some ⟨r5, 0, none⟩), .pointer (some ⟨r6, 0, none⟩), .pointer (some ⟨r7, 0, none⟩)] := by rw [hq8]; rfl
  rw [ef8]
  have C2 := hide (eachSegs_calls 180 #[.pointer (some ⟨w.heap.size + 1, 0, none⟩)] (enters_of Tryz.func180 (by kernel_rfl) rfl) (fun S => segCutS S pos) (fun s m' => m'.p = s.p ∧ m'.dp = s.dp) (fun W => Caught W (w.heap.size + 1) pos ∧ Box8 W (w.heap.size + 2) []) B ts Ss w1 ht1 (by omega) r0 r1 r2 r3 r4 r5 r6 r7 hq8 (fun W hW => ⟨keepB z1 hW, keepB z2 hW⟩)
    (fun W W' i c f h hi hc t => ⟨caught_still _ _ _ (by omega) W W' i c f h.1 hi hc t, (t.block _ (ltAt h.2) (by omega)).trans h.2⟩)
    (fun W k s S hs1 hS1 hz hb hX h => (callCut B (w.heap.size + 1) pos s S W (hX.seg (hok S (List.mem_of_getElem? hS1))) (by omega) h.1 (((hp.below (B0.mono hB)).below (B1.trans hb)).pow) (he S (List.mem_of_getElem? hS1))).mono fun x W' ⟨m', h1, h2, h3, h4, h5, h6⟩ => ⟨m', h1, h2.x, h3, h4, h5, h6, (h4.block _ (ltAt h.2) (hX.not_on h.2 ⟨by decide, by decide, by decide, by decide⟩)).trans h.2⟩))
  clear ef8 hq8 z1 z2 x1 x2 C ht1 t1
  go_wp2_with fail
  refine C2.out.mono ?_
  rintro e w2 ⟨ss', rfl, hs2, h82, hn2, t2, -, -, y2⟩
  obtain ⟨q0, q1, q2, q3, q4, q5, q6, q7, hq8⟩ := eight_of (l := ptrs ss') (by simp [ptrs, h82])
  have ef8 : (fillV (adrs (ptrs ss'))).toArray = #[.pointer (some ⟨q0, 0, none⟩), .pointer (some ⟨q1, 0, none⟩), .pointer (some ⟨q2, 0, none⟩), .pointer (some ⟨q3, 0, none⟩), .pointer (some ⟨q4, 0, none⟩), .pointer (some ⟨q5, 0, none⟩), .pointer (some ⟨q6, 0, none⟩), .pointer (some ⟨q7, 0, none⟩)] := by rw [hq8]; rfl
  rw [ef8]
  have Y2 := hide y2
  obtain ⟨⟨e0, e1, e2, e3, e4, e5, e6, e7⟩, g0, g1, g2, g3, g4, g5, g6, g7⟩ := cells8 y2
  clear y2 C2
  go_wp2_with fail
  have e5 := put8_heap Y2.out (.pointer (some ⟨q0, 0, none⟩)) (.pointer (some ⟨q1, 0, none⟩)) (.pointer (some ⟨q2, 0, none⟩)) (.pointer (some ⟨q3, 0, none⟩)) (.pointer (some ⟨q4, 0, none⟩)) (.pointer (some ⟨q5, 0, none⟩)) (.pointer (some ⟨q6, 0, none⟩)) (.pointer (some ⟨q7, 0, none⟩))
  have t5 := put8_touch (W := w2) (b := w.heap.size + 2) (.pointer (some ⟨q0, 0, none⟩)) (.pointer (some ⟨q1, 0, none⟩)) (.pointer (some ⟨q2, 0, none⟩)) (.pointer (some ⟨q3, 0, none⟩)) (.pointer (some ⟨q4, 0, none⟩)) (.pointer (some ⟨q5, 0, none⟩)) (.pointer (some ⟨q6, 0, none⟩)) (.pointer (some ⟨q7, 0, none⟩))
  obtain ⟨W5, hW5⟩ : ∃ W5, put8 (w2) (w.heap.size + 2) (.pointer (some ⟨q0, 0, none⟩)) (.pointer (some ⟨q1, 0, none⟩)) (.pointer (some ⟨q2, 0, none⟩)) (.pointer (some ⟨q3, 0, none⟩)) (.pointer (some ⟨q4, 0, none⟩)) (.pointer (some ⟨q5, 0, none⟩)) (.pointer (some ⟨q6, 0, none⟩)) (.pointer (some ⟨q7, 0, none⟩)) = W5 := ⟨_, rfl⟩
  rw [hW5] at e5 t5
  unfold put8 at hW5
  rw [hW5]
  obtain ⟨⟨k0, k1, k2, k3, k4, k5, k6, k7⟩, -⟩ := cells8 e5
  refine bodyPost_ret (v := .tuple #[.agg #[.pointer (some ⟨q0, 0, none⟩), .pointer (some ⟨q1, 0, none⟩), .pointer (some ⟨q2, 0, none⟩), .pointer (some ⟨q3, 0, none⟩), .pointer (some ⟨q4, 0, none⟩), .pointer (some ⟨q5, 0, none⟩), .pointer (some ⟨q6, 0, none⟩), .pointer (some ⟨q7, 0, none⟩)], .int .i64 0]) (by simp [results, Tryz.f131, go_sem, k0, k1, k2, k3, k4, k5, k6, k7]) rfl ?_
  refine ⟨ss', by rw [ef8], hs2.box8 Y2.out t5, h82, fun x hx => ?_, ((t01.next t2 fun x hx h => ?_).upper t5 fun x hx => by rw [hx]; omega)⟩
  · rcases hn2 x hx with h | h
    · have := hn1 x h
      omega
    · omega
  · have := hn1 x h
    omega

set_option maxHeartbeats 2000000 in
set_option maxRecDepth 100000 in
theorem newSegments_calls (room : Int) (w : World) (h1 : 1 ≤ room) (h2 : room ≤ 1048576) :
    Calls Tryz.prog 40 #[.int .i64 room] w fun x w' =>
      ∃ ss', x = .returned (.tuple #[.agg (fillV (adrs (ptrs ss'))).toArray, .int .i64 0]) ∧ Segs w' w.heap.size ss' (List.replicate 8 (emptyS ⟨room, [], 0⟩)) ∧ ss'.length = 8 ∧ (∀ x, onAll ss' x → w.heap.size ≤ x) ∧ Below w.heap.size w w' := by
  obtain ⟨W0, hW0⟩ : ∃ W0, (w.alloc (.cells #[.int .i64 room] 3)).alloc (.cells #[.pointer none, .pointer none, .pointer none, .pointer none, .pointer none, .pointer none, .pointer none, .pointer none] 83) = W0 := ⟨_, rfl⟩
  have B0 : Below w.heap.size w W0 := by rw [← hW0]; exact ((Below.refl _ w).alloc (Nat.le_refl _) _).alloc (by simp) _
  have s0 : W0.heap.size = w.heap.size + 2 := by rw [← hW0]; simp
  have x1 : Caught W0 w.heap.size room := by
    rw [← hW0]
    exact (Below.heap_alloc _ _ _ (by simp)).trans (World.alloc_heap_new w _)
  have x2 : Box8 W0 (w.heap.size + 1) [] := by
    rw [← hW0]
    have := World.alloc_heap_new (w.alloc (.cells #[.int .i64 room] 3)) (.cells #[.pointer none, .pointer none, .pointer none, .pointer none, .pointer none, .pointer none, .pointer none, .pointer none] 83)
    rwa [World.size_alloc] at this
  have C := hide (each_calls 88 #[.pointer (some ⟨w.heap.size, 0, none⟩)] (.pointer none) (.pointer none) (.pointer none) (.pointer none) (.pointer none) (.pointer none) (.pointer none) (.pointer none) W0 (enters_of Tryz.func88 (by kernel_rfl) rfl)
    (fun k l W => ∃ cs : List SegM, cs.length = k ∧ l = ptrs cs ∧ Segs W w.heap.size cs (List.replicate k (emptyS ⟨room, [], 0⟩)) ∧ Below w.heap.size w W ∧ Caught W w.heap.size room ∧ Box8 W (w.heap.size + 1) [])
    (fun _ _ => False)
    (fun k l W W' i c f ⟨cs, a1, a2, a3, a4, a5, a6⟩ hi hc t => ⟨cs, a1, a2, a3.box8 hc t, a4.trans (t.below (by have := a4.size; omega) fun x _ hx => by rw [hx]; omega), caught_still _ _ _ (by omega) W W' i c f a5 hi hc t, (t.block _ (ltAt a6) (by omega)).trans a6⟩)
    (fun _ _ _ _ _ _ h => h.elim)
    (fun W hW => ⟨[], rfl, rfl, segs_nil _ _, B0.trans (hW.mono B0.size), keepB x1 hW, keepB x2 hW⟩)
    (fun k l W hk hl hz ⟨cs, a1, a2, a3, a4, a5, a6⟩ => by
      have hq : [(.pointer none : Value), .pointer none, .pointer none, .pointer none, .pointer none, .pointer none, .pointer none, .pointer none].getD k (.pointer none) = .pointer none := by
        match k, hk with
        | 0, _ => rfl
        | 1, _ => rfl
        | 2, _ => rfl
        | 3, _ => rfl
        | 4, _ => rfl
        | 5, _ => rfl
        | 6, _ => rfl
        | 7, _ => rfl
      rw [hq]
      refine (callNew w.heap.size room none W a5 h1 h2).mono ?_
      rintro x W' ⟨m', rfl, hI, hb⟩
      refine ⟨_, 0, rfl, hb.size, fun i c f hi => hb.block i (ltAt hi), .inl ⟨rfl, m'.p, rfl, cs ++ [m'], by simp [a1], by simp [ptrs, a2], ?_, a4.trans (hb.mono a4.size), keepB a5 hb, keepB a6 hb⟩⟩
      rw [List.replicate_succ']
      exact a3.push (touch_new (S := fun _ => False) hb) (firm_none _) (fun _ _ h => h) (hI.x.lower a4.size) fun x hx hx' => by
        have e1 := (hI.x.types hx).1
        have e2 := (a3.on hx').2
        omega))
  have HW := hide hW0
  clear hW0 x1 x2
  go_enter Tryz.func40, Tryz.ntmps40
  go_wp2_with fail
  rw [HW.out]
  refine C.out.mono ?_
  rintro e w2 ⟨l, E, rfl, h | ⟨-, h⟩⟩
  · obtain ⟨rfl, qs, rfl, -, ss', h82, rfl, hs2, b2, -, y2⟩ := h
    obtain ⟨q0, q1, q2, q3, q4, q5, q6, q7, hq8⟩ := eight_of (l := ptrs ss') (by simp [ptrs, h82])
    have ef8 : (fillV (adrs (ptrs ss'))).toArray = #[.pointer (some ⟨q0, 0, none⟩), .pointer (some ⟨q1, 0, none⟩), .pointer (some ⟨q2, 0, none⟩), .pointer (some ⟨q3, 0, none⟩), .pointer (some ⟨q4, 0, none⟩), .pointer (some ⟨q5, 0, none⟩), .pointer (some ⟨q6, 0, none⟩), .pointer (some ⟨q7, 0, none⟩)] := by rw [hq8]; rfl
    rw [ef8]
    have Y2 := hide y2
    obtain ⟨⟨e0, e1, e2, e3, e4, e5, e6, e7⟩, g0, g1, g2, g3, g4, g5, g6, g7⟩ := cells8 y2
    clear y2 C
    go_wp2_with fail
    have e5 := put8_heap Y2.out (.pointer (some ⟨q0, 0, none⟩)) (.pointer (some ⟨q1, 0, none⟩)) (.pointer (some ⟨q2, 0, none⟩)) (.pointer (some ⟨q3, 0, none⟩)) (.pointer (some ⟨q4, 0, none⟩)) (.pointer (some ⟨q5, 0, none⟩)) (.pointer (some ⟨q6, 0, none⟩)) (.pointer (some ⟨q7, 0, none⟩))
    have t5 := put8_touch (W := w2) (b := w.heap.size + 1) (.pointer (some ⟨q0, 0, none⟩)) (.pointer (some ⟨q1, 0, none⟩)) (.pointer (some ⟨q2, 0, none⟩)) (.pointer (some ⟨q3, 0, none⟩)) (.pointer (some ⟨q4, 0, none⟩)) (.pointer (some ⟨q5, 0, none⟩)) (.pointer (some ⟨q6, 0, none⟩)) (.pointer (some ⟨q7, 0, none⟩))
    obtain ⟨W5, hW5⟩ : ∃ W5, put8 (w2) (w.heap.size + 1) (.pointer (some ⟨q0, 0, none⟩)) (.pointer (some ⟨q1, 0, none⟩)) (.pointer (some ⟨q2, 0, none⟩)) (.pointer (some ⟨q3, 0, none⟩)) (.pointer (some ⟨q4, 0, none⟩)) (.pointer (some ⟨q5, 0, none⟩)) (.pointer (some ⟨q6, 0, none⟩)) (.pointer (some ⟨q7, 0, none⟩)) = W5 := ⟨_, rfl⟩
    rw [hW5] at e5 t5
    unfold put8 at hW5
    rw [hW5]
    obtain ⟨⟨k0, k1, k2, k3, k4, k5, k6, k7⟩, -⟩ := cells8 e5
    refine bodyPost_ret (v := .tuple #[.agg #[.pointer (some ⟨q0, 0, none⟩), .pointer (some ⟨q1, 0, none⟩), .pointer (some ⟨q2, 0, none⟩), .pointer (some ⟨q3, 0, none⟩), .pointer (some ⟨q4, 0, none⟩), .pointer (some ⟨q5, 0, none⟩), .pointer (some ⟨q6, 0, none⟩), .pointer (some ⟨q7, 0, none⟩)], .int .i64 0]) (by simp [results, Tryz.f40, go_sem, k0, k1, k2, k3, k4, k5, k6, k7]) rfl ?_
    exact ⟨ss', by rw [ef8], hs2.box8 Y2.out t5, h82, fun x hx => (hs2.on hx).1, b2.trans (t5.below b2.size fun x _ hx => by rw [hx]; omega)⟩
  · exact h.elim

end Go.Proofs.YtjbjjfndkpcciaaGreatDoor

/- A scope within a fence, through which the run goes without a goto. Own work; no statement. -/
set_option linter.unusedSimpArgs false
set_option linter.unusedVariables false
namespace Go.Proofs.YtjbjjfndkpcciaaGreatDoor
open Go.RowKit

section
variable {F : Fence} {n : Nat} {P : Program} {Q : Exit → Act → World → Prop} {a : Act} {w : World}

theorem stepR_scope {b : Frame} {k : List Item} {cs : List Frame} {c : Code} : step P (lone (b.atR a (.code (.scope c) :: k)) cs w) = .next (lone (b.atR a (.code c :: .inScope c :: k)) cs w) :=
  step_lone_go (by simp [stepG, stepG.exec, Frame.atR])
theorem stepR_inScope {b : Frame} {k : List Item} {cs : List Frame} {c : Code} : step P (lone (b.atR a (.inScope c :: k)) cs w) = .next (lone (b.atR a k) cs w) :=
  step_lone_go (by simp [stepG, stepG.exec, Frame.atR])

theorem wpIn_scope_straight {c : Code} (h : c.wpIn F n P (Exit.noGoto Q) a w) : (Code.scope c).wpIn F n P Q a w := by
  intro b k cs hro hb hr
  have h0 : (lone (b.atR a (.code (.scope c) :: k)) cs w).fenced P F := fenced_calm hb hr rfl
  obtain ⟨e, a₁, w₁, hq, harr⟩ := h b (.inScope c :: k) cs hro hb hr
  cases e with
  | normal => exact ⟨.normal, a₁, w₁, hq, .head h0 stepR_scope (StepsIn.trans harr (.one (fenced_calm hb hr rfl) stepR_inScope))⟩
  | exit id =>
    have hx : exitTo id (.inScope c :: k) = exitTo id k := by simp [exitTo]
    exact ⟨.exit id, a₁, w₁, hq, fun k' hk => .head h0 stepR_scope (harr.1 k' (by rw [hx]; exact hk)), fun hr' hk => let ⟨k₁, h1, h2⟩ := harr.2 hr' (by rw [hx]; exact hk); ⟨k₁, h1, .head h0 stepR_scope h2⟩⟩
  | goto l => exact hq.elim
  | ret => exact ⟨_, a₁, w₁, hq, .of_steps (.one h0 stepR_scope) harr⟩
  | panic ch => exact ⟨_, a₁, w₁, hq, .of_steps (.one h0 stepR_scope) harr⟩
  | outgrown => exact ⟨_, a₁, w₁, hq, .of_steps (.one h0 stepR_scope) harr⟩
end

end Go.Proofs.YtjbjjfndkpcciaaGreatDoor

/- A log's records from a position on, as a sequence. Own work; no statement. -/
set_option linter.unusedSimpArgs false
set_option linter.unusedVariables false
namespace Go.Proofs.YtjbjjfndkpcciaaGreatDoor
open Go.RowKit Go.Shelf Go.Sort

attribute [local go_sem] Oper.semAt_some

/-- The records of so many positions. -/
def LogD.recs (L : LogD) (pos : Int) (N : Nat) : List (Int × RecD) := (List.range N).map fun (i : Nat) => (pos + (i : Int), (L.get (pos + (i : Int))).1)
theorem recs_length (L : LogD) (pos : Int) (N : Nat) : (L.recs pos N).length = N := by simp [LogD.recs]
theorem recs_succ (L : LogD) (pos : Int) (k : Nat) : L.recs pos (k + 1) = L.recs pos k ++ [(pos + (k : Int), (L.get (pos + (k : Int))).1)] := by simp [LogD.recs, List.range_succ]
theorem recs_take (L : LogD) (pos : Int) (N k : Nat) (h : k ≤ N) : L.recs pos k <+: L.recs pos N := by
  unfold LogD.recs
  obtain ⟨d, rfl⟩ : ∃ d, N = k + d := ⟨N - k, by omega⟩
  rw [List.range_add, List.map_append]
  exact List.prefix_append _ _

/-- What a sequence from a position on holds. -/
structure IsFrom (W : World) (B b c : Nat) (m : LogM) (L : LogD) (pos : Int) : Prop where
  at_ : W.heap[b]? = some (.cells #[.int .i64 pos] 3 (0, 0))
  log : W.heap[c]? = some (.cells #[.pointer (some ⟨m.p, 0, none⟩)] 26 (0, 0))
  is : IsLog W B m L

theorem IsSegX.span {w w' : World} {B : Nat} {m : SegM} {S : SegD} (h : IsSegX w B m S) (hz : w.heap.size ≤ w'.heap.size) (hk : ∀ k, k < w.heap.size → w'.heap[k]? = w.heap[k]?) : IsSegX w' B m S :=
  h.keep' hz (fun k e => hk k (h.types e).2.1) fun k c t e _ => hk k (ltAt e)
theorem IsLog.span {w w' : World} {B : Nat} {m : LogM} {L : LogD} (h : IsLog w B m L) (hz : w.heap.size ≤ w'.heap.size) (hk : ∀ k, k < w.heap.size → w'.heap[k]? = w.heap[k]?) : IsLog w' B m L := by
  obtain ⟨vs, vg, hp, h1, h2⟩ := h.val
  exact ⟨h.low, h.own.keep fun k e => hk k (h.own.on e).2, h.n8, ⟨h.segs.len, fun k m S e1 e2 => (h.segs.seg k m S e1 e2).span hz hk, h.segs.apart⟩, h.off, vs, vg, (hk _ (ltAt hp)).trans hp, ownsRow_of_heap h1 fun k e => hk k (h1.lt k e).2, ownsRow_of_heap h2 fun k e => hk k (h2.lt k e).2⟩
/-- All below hi is as it was, but for the blocks of X. -/
def KeepsX (X : Nat → Prop) (hi : Nat) (W W' : World) : Prop := W.heap.size ≤ W'.heap.size ∧ ∀ k, k < hi → ¬ X k → W'.heap[k]? = W.heap[k]?
theorem keepsX_t {X : Nat → Prop} {hi : Nat} {A B C : World} (h : KeepsX X hi A B) (k : KeepsX X hi B C) : KeepsX X hi A C := ⟨Nat.le_trans h.1 k.1, fun i h1 h2 => (k.2 i h1 h2).trans (h.2 i h1 h2)⟩
theorem keepsX_b {X : Nat → Prop} {hi n : Nat} (hn : hi ≤ n) (W : World) (l : Nat) (o o' : Obj) (hl : n ≤ l) (_ : W.heap[l]? = some o) (_ : o.isCells = false) (_ : o.isWalk = false) : KeepsX X hi W (W.putObj l o') := by
  refine ⟨by simp [World.putObj], fun k h1 _ => ?_⟩
  unfold World.putObj
  simp only [Array.getElem?_setIfInBounds]
  rw [if_neg (by omega)]
theorem KeepsX.of_below {X : Nat → Prop} {hi : Nat} {W W' : World} (h : Below W.heap.size W W') (hh : hi ≤ W.heap.size) : KeepsX X hi W W' := ⟨h.size, fun k h2 _ => h.block k (by omega)⟩
theorem keepsX_refl (X : Nat → Prop) (hi : Nat) (W : World) : KeepsX X hi W W := ⟨Nat.le_refl _, fun _ _ _ => rfl⟩

/-- A log is as it was where blocks of other types have turned. -/
theorem IsLog.touchH {w w' : World} {B : Nat} {m : LogM} {L : LogD} {X : Nat → Prop} (h : IsLog w B m L) (hz : w.heap.size ≤ w'.heap.size) (hk : ∀ k, k < w.heap.size → ¬ X k → w'.heap[k]? = w.heap[k]?) (hX : Firm w X) (ha : ∀ k, m.on k → ¬ X k) : IsLog w' B m L := by
  have t : Touch X w { w' with os := w.os, tape := w.tape, output := w.output } := ⟨rfl, rfl, rfl, hz, hk⟩
  exact (h.touch t hX ha).span (Nat.le_refl _) fun _ _ => rfl

theorem IsFrom.span {W W' : World} {B b c : Nat} {m : LogM} {L : LogD} {pos : Int} (h : IsFrom W B b c m L pos) (hz : W.heap.size ≤ W'.heap.size) (hk : ∀ k, k < W.heap.size → W'.heap[k]? = W.heap[k]?) : IsFrom W' B b c m L pos :=
  ⟨(hk _ (ltAt h.at_)).trans h.at_, (hk _ (ltAt h.log)).trans h.log, h.is.span hz hk⟩

/-- From a position on there are just so many records. -/
structure LogD.Has (L : LogD) (pos : Int) (N : Nat) : Prop where
  each : ∀ i : Nat, i < N → pos + (i : Int) < L.next ∧ (L.get (pos + (i : Int))).2 = 0 ∧ (L.get (pos + (i : Int))).1.dep.length ≤ 17592186044416
  stop : L.next ≤ pos + (N : Int)
  low : -9223372036854775808 ≤ pos
  high : pos + (N : Int) ≤ 9223372036854775806

set_option maxRecDepth 100000 in
set_option maxHeartbeats 4000000 in
theorem from1_in (n : Nat) (hn : 1 ≤ n) (X : Nat → Prop) (lp b c hi B : Nat) (m : LogM) (L : LogD) (pos : Int) (N : Nat) (hf : L.fm) (hu : L.down = false → L.up) (hN : L.Has pos N) (J Jx : List Pl → World → Prop)
    (hY : ∀ pre x A W, J pre A → GivesPl x A W → pre.length < N → YieldAt Fence.wide (n - 1) Tryz.prog lp (encPl x) W fun e W' =>
      (e = .returned (.bool true) ∧ J (pre ++ [x]) W' ∧ KeepsX X hi W W') ∨ (e = .returned (.bool false) ∧ Jx (pre ++ [x]) W'))
    (W : World) (hhi : hi ≤ W.heap.size) (hbl : ∀ W', KeepsX X hi W W' → IsFrom W' B b c m L pos) (h0 : J [] W) :
    CallsIn Fence.wide n Tryz.prog 189 #[.func (.yield lp) #[] #[], .pointer (some ⟨b, 0, none⟩), .pointer (some ⟨c, 0, none⟩)] W fun e W' => (∃ v, e = .returned v) ∧
      ((∃ ys, ys.map (fun p => (p.i, p.r)) = L.recs pos N ∧ J ys W') ∨ (∃ pre, pre.map (fun p => (p.i, p.r)) <+: L.recs pos N ∧ Jx pre W')) := by
  refine callsIn_of_wp Tryz.func189 rfl trivial ?_ rfl
  simp only [Tryz.ntmps189, List.size_toArray, List.length_cons, List.length_nil, Nat.reduceAdd, Nat.reduceSub, Array.replicate_succ, Array.replicate_zero, List.push_toArray, List.append_toArray, List.nil_append, List.cons_append]
  have hA := hbl W (keepsX_refl _ _ _)
  have HY := hide hY
  have Hbl := hide hbl
  have HN := hide hN
  have Hf := hide hf
  have Hu := hide hu
  have hnx := hf.next1
  have cb := cellsAt hA.at_ 0
  simp only [List.getElem?_toArray, List.getElem?_cons_zero] at cb
  have hl := hN.low
  have hh := hN.high
  clear hY hbl hA hN hf hu
  refine wpIn_scope_straight ?_
  gi_wp2
  refine wpIn_label ?_
  gi_wp2
  clear cb
  gi_loopw [4] (fun i wr => ∃ (k : Nat) (pre : List Pl), k ≤ N ∧ i = .int .i64 (pos + (k : Int)) ∧ pre.map (fun p => (p.i, p.r)) = L.recs pos k ∧ J pre wr ∧ KeepsX X hi W wr) (fun i _ => (pos + (N : Int) - intOf i).toNat)
  case atStart => exact ⟨0, [], Nat.zero_le _, by simp, rfl, h0, keepsX_refl _ _ _⟩
  case round =>
    obtain ⟨k, pre, hk, rfl, hpre, hJs, hks⟩ := hrel
    have hsz := Nat.le_trans hhi hks.1
    have hfr := Hbl.out wr hks
    have cl := cellsAt hfr.log 0
    simp only [List.getElem?_toArray, List.getElem?_cons_zero] at cl
    obtain ⟨vs, vg, -, -, -, -, -, -, -, -, c14, -, -⟩ := hfr.is.cells
    have hplen : pre.length = k := by have := congrArg List.length hpre; simpa [recs_length] using this
    have Hpre := hide hpre
    have Hpl := hide hplen
    have Hfr := hide hfr
    clear hfr hpre hplen
    by_cases hlt : pos + (k : Int) < L.next
    · have hkN : k < N := by
        have := HN.out.stop
        omega
      have C := hide (logGet_calls B m L (pos + (k : Int)) wr Hfr.out.is Hf.out Hu.out (by omega))
      gi_wp2
      refine ⟨trivial, ?_⟩
      refine ((callsIn_wide (n := _)).2 C.out).mono ?_
      rintro e w2 ⟨v, rfl, ⟨vd, rfl, hown⟩, hb2⟩
      obtain ⟨a', cap', rfl⟩ := ownsRow_slice hown
      have Hown := hide hown
      have Hb2 := hide hb2
      obtain ⟨-, he0, hdep⟩ := HN.out.each k hkN
      obtain ⟨r, hr⟩ : ∃ r, (L.get (pos + (k : Int))).1 = r := ⟨_, rfl⟩
      have hrs := recs_succ L pos k
      rw [hr] at Hown hdep hrs ⊢
      rw [he0]
      have Hrs := hide hrs
      have Hdep := hide hdep
      have hB3 := Hb2.out.alloc Hb2.out.size (.cells #[.int .i64 r.site, .int .i64 r.seq, .slice a' r.dep.length cap', .string r.key, .string r.val] 36)
      obtain ⟨fn, tmps, assign, body, hy, hR⟩ := HY.out pre ⟨pos + (k : Int), r, .slice a' r.dep.length cap'⟩ wr _ hJs ⟨hB3, World.ownsRow.alloc Hown.out _, Hdep.out⟩ (by have := Hpl.out; omega)
      dsimp only [encPl] at hy
      have HB3 := hide hB3
      clear hown hb2 C c14 cl hr hrs he0 hdep hB3
      gi_wp2
      refine hR.mono ?_
      rintro e W4 hW4
      obtain ⟨b, rfl, hb4⟩ := yield_bool hW4
      rcases hb4 with ⟨rfl, hJ4, hk4⟩ | ⟨rfl, hJx4⟩
      · gi_wp2
        exact ⟨⟨k + 1, _, by omega, by go_num, by rw [List.map_append, Hpre.out, Hrs.out]; rfl, hJ4, keepsX_t hks (keepsX_t (KeepsX.of_below HB3.out hsz) hk4)⟩, by simp [intOf]; omega⟩
      · gi_wp2
        try rw [Exit.noGoto_normal]
        go_end0
        refine ⟨⟨_, rfl⟩, .inr ⟨_, ?_, hJx4⟩⟩
        rw [List.map_append, Hpre.out]
        have := recs_take L pos N (k + 1) hkN
        rw [Hrs.out] at this
        exact this
    · have hkN : k = N := by
        have := HN.out.each k
        omega
      subst hkN
      gi_wp2
      go_end0
      exact ⟨⟨_, rfl⟩, .inl ⟨pre, Hpre.out, hJs⟩⟩

/-- What from answers: a sequence over the records. -/
theorem from_stops (n : Nat) (hn : 1 ≤ n) (X : Nat → Prop) (b c B : Nat) (m : LogM) (L : LogD) (pos : Int) (N : Nat) (hf : L.fm) (hu : L.down = false → L.up) (hN : L.Has pos N) (w0 w : World) (hA : IsFrom w0 B b c m L pos) (hw : Below w0.heap.size w0 w)
    (hX : Firm w0 X) (ha : ∀ k, m.on k → ¬ X k) (hb : ¬ X b) (hc : ¬ X c) :
    SeqR n Tryz.prog 189 #[.pointer (some ⟨b, 0, none⟩), .pointer (some ⟨c, 0, none⟩)] encPl (KeepsX X w0.heap.size) GivesPl (fun ys => ys.map (fun p => (p.i, p.r)) = L.recs pos N)
      (fun pre => pre.map (fun p => (p.i, p.r)) <+: L.recs pos N) N w := fun lp J Jx W hW hY h0 =>
  have hW0 : Below w0.heap.size w0 W := hw.trans (hW.mono hw.size)
  from1_in n hn X lp b c w0.heap.size B m L pos N hf hu hN J Jx hY W hW0.size
    (fun W' hk => by
      have hs : ∀ k, k < w0.heap.size → ¬ X k → W'.heap[k]? = w0.heap[k]? := fun k h1 h2 => (hk.2 k h1 h2).trans (hW0.block k h1)
      exact ⟨(hs b (ltAt hA.at_) hb).trans hA.at_, (hs c (ltAt hA.log) hc).trans hA.log, hA.is.touchH (Nat.le_trans hW0.size hk.1) hs hX ha⟩) h0

theorem from_calls (p : Nat) (pos : Int) (w : World) : Calls Tryz.prog 139 #[.pointer (some ⟨p, 0, none⟩), .int .i64 pos] w fun e w' =>
    e = .returned (.func (.func 189) #[] #[.pointer (some ⟨w.heap.size + 1, 0, none⟩), .pointer (some ⟨w.heap.size, 0, none⟩)]) ∧ w'.heap[w.heap.size + 1]? = some (.cells #[.int .i64 pos] 3 (0, 0)) ∧ w'.heap[w.heap.size]? = some (.cells #[.pointer (some ⟨p, 0, none⟩)] 26 (0, 0)) ∧ Below w.heap.size w w' ∧ w'.heap.size = w.heap.size + 2 := by
  have hmf : ∀ (fn : Fn) (first cap : Array Value) (w : World), (Instr.makeFunc fn first cap).run Tryz.prog w = .ok (.func fn first cap) w := fun _ _ _ _ => rfl
  go_enter Tryz.func139, Tryz.ntmps139
  go_wp2_with fail
  go_ret
  refine ⟨rfl, ?_, (Below.heap_alloc _ _ _ (by simp)).trans (World.alloc_heap_new w _), ((Below.refl _ w).alloc (Nat.le_refl _) _).alloc (by simp) _, by simp⟩
  have := World.alloc_heap_new (w.alloc (.cells #[.pointer (some ⟨p, 0, none⟩)] 26)) (.cells #[.int .i64 pos] 3)
  rwa [World.size_alloc] at this

end Go.Proofs.YtjbjjfndkpcciaaGreatDoor
