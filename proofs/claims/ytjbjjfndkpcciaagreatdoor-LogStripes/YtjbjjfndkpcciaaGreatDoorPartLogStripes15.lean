/- Own work: the parts G13, G14, ScopeIn, G15, W4o, G16 of the proof, laid together. -/
import Derived.Test.YtjbjjfndkpcciaaGreatDoorPartLogStripes14
import Derived.Test.YtjbjjfndkpcciaaGreatDoorPartLogStripes2
import Derived.Scope
import Derived.Test.YtjbjjfndkpcciaaGreatDoorPartLogStripes1
/- What maint does to each segment. Own work; no statement. -/
set_option linter.unusedSimpArgs false
set_option linter.unusedVariables false
namespace Go.Proofs.YtjbjjfndkpcciaaGreatDoor
open Go.RowKit Go.Shelf Go.Sort

/-- The table of powers lies there, whatever turns from B on. -/
def PowF (B : Nat) (w : World) : Prop := ∀ W, Below B w W → Pow W
theorem PowF.pow {B : Nat} {w : World} (h : PowF B w) : Pow w := h w (Below.refl _ w)
theorem PowF.below {B : Nat} {w w' : World} (h : PowF B w) (hb : Below B w w') : PowF B w' := fun W hW => h W (hb.trans hW)
theorem Pow.from {w0 w : World} (h : Pow w0) (hb : Below w0.heap.size w0 w) : PowF w0.heap.size w := fun W hW => h.below (hb.trans hW)

/-- A number that a function has caught. -/
abbrev Caught (W : World) (b : Nat) (x : Int) : Prop := W.heap[b]? = some (.cells #[.int .i64 x] 3 (0, 0))
theorem Caught.cell {W : World} {b : Nat} {x : Int} (h : Caught W b x) : W.cell? ⟨b, 0, none⟩ = some (.int .i64 x) := by simpa using cellsAt h 0
theorem Caught.touch {W W' : World} {b : Nat} {x : Int} {B : Nat} {m : SegM} {S : SegD} (h : Caught W b x) (hX : IsSegX W B m S) (t : Touch m.on W W') : Caught W' b x :=
  (t.block _ (ltAt h) (hX.not_on h ⟨by decide, by decide, by decide, by decide⟩)).trans h
theorem caught_still (b n : Nat) (x : Int) (hb : b < n) : Still n fun W => Caught W b x := fun W W' i c f h hi hc t => (t.block _ (ltAt h) (by omega)).trans h

theorem callTrim (B b : Nat) (pos : Int) (s : SegM) (S : SegD) (W : World) (hX : IsSeg W B s S) (hB : B ≤ W.heap.size) (hb : Caught W b pos) (hp : Pow W) :
    Calls Tryz.prog 145 #[.pointer (some ⟨s.p, 0, none⟩), .pointer (some ⟨b, 0, none⟩)] W fun x W' => ∃ m', x = .returned (.tuple #[.pointer (some ⟨m'.p, 0, none⟩), .int .i64 0]) ∧ IsSeg W' B m' (segTrimS S pos) ∧ (∀ x, m'.on x → s.on x ∨ W.heap.size ≤ x) ∧ Touch s.on W W' ∧ (m'.p = s.p ∧ m'.dp = s.dp) ∧ Caught W' b pos := by
  have C := hide (segTrim_calls B s S pos W hX hB hp)
  have hc := hb.cell
  have Hb := hide hb
  have HX := hide hX
  clear hX hb
  go_enter Tryz.func145, Tryz.ntmps145
  go_wp2_with fail
  refine C.out.mono ?_
  rintro e w2 ⟨rfl, m', h1, h2, h3, h4, h5, h6⟩
  have H4 := hide h4
  have H5 := hide h5
  clear h4 h5 C hc
  go_wp2_with fail
  go_ret2
  exact ⟨m', by rw [h1]; rfl, H4.out, h6, H5.out, ⟨h1, h2⟩, Hb.out.touch HX.out.x H5.out⟩

/-- A segment is sealed of an epoch, where it is not yet. -/
def sealTo (k : Int) (S : SegD) : SegD := if k ≤ S.sealed then S else segSealS S k
set_option maxHeartbeats 1000000 in
theorem callSeal (B b : Nat) (k : Int) (s : SegM) (S : SegD) (W : World) (hX : IsSeg W B s S) (hB : B ≤ W.heap.size) (hb : Caught W b k) (hp : Pow W) (he : ¬ k ≤ S.sealed → segSealE S k = 0) :
    Calls Tryz.prog 134 #[.pointer (some ⟨s.p, 0, none⟩), .pointer (some ⟨b, 0, none⟩)] W fun x W' => ∃ m', x = .returned (.tuple #[.pointer (some ⟨m'.p, 0, none⟩), .int .i64 0]) ∧ IsSeg W' B m' (sealTo k S) ∧ (∀ x, m'.on x → s.on x ∨ W.heap.size ≤ x) ∧ Touch s.on W W' ∧ (m'.p = s.p ∧ m'.dp = s.dp) ∧ Caught W' b k := by
  have C1 := hide (fun n => (segSealed_calls B s S (W.drewN n) (hX.keep (drewsB W n))).mono fun e w' ⟨h1, h2⟩ => (⟨h1, 0, h2⟩ : e = Ending.returned (.int .i64 S.sealed) ∧ ∃ m, w' = (W.drewN n).drewN m))
  have C2 := hide (fun n => segSeal_calls B s S k (W.drewN n) (hX.keep (drewsB W n)) hB (hp.below (drewsB W n)))
  have hc := hb.cell
  have Hb := hide hb
  have HX := hide hX
  unfold sealTo
  clear hX hb
  by_cases h : k ≤ S.sealed
  · rw [if_pos h]
    go_enter Tryz.func134, Tryz.ntmps134
    go_wp2_with fail
    go_quiet (first | (go_at_call 135; refine Calls.quiet_of (C1.out _)))
    go_wp2_with fail
    go_ret2
    exact ⟨s, rfl, HX.out.keep (drewsB W _), fun x h => .inl h, touch_new (drewsB W _), ⟨rfl, rfl⟩, Hb.out⟩
  · rw [if_neg h]
    have he := he h
    rw [he] at C2
    go_enter Tryz.func134, Tryz.ntmps134
    go_wp2_with fail
    go_quiet (first | (go_at_call 135; refine Calls.quiet_of (C1.out _)))
    go_wp2_with fail
    refine (C2.out nq).mono ?_
    rintro e w2 ⟨rfl, m', h1, h2, h3, h4, h5, h6⟩
    have H4 := hide h4
    have H5 := hide (Touch.of_touch h5 (drewsB W nq))
    clear h4 h5 C1 C2 hc
    go_wp2_with fail
    go_ret2
    exact ⟨m', by rw [h1]; rfl, H4.out, h6, H5.out, ⟨h1, h2⟩, Hb.out.touch HX.out.x H5.out⟩

theorem callTwin (B : Nat) (s : SegM) (S : SegD) (W : World) (hX : IsSegX W B s S) (hB : B ≤ W.heap.size) :
    Calls Tryz.prog 94 #[.pointer (some ⟨s.p, 0, none⟩)] W fun x W' => ∃ m', x = .returned (.tuple #[.pointer (some ⟨m'.p, 0, none⟩), .int .i64 0]) ∧ IsSegX W' B m' S ∧ (∀ x, m'.on x → s.on x ∨ W.heap.size ≤ x) ∧ Touch s.on W W' ∧ (∀ x, m'.on x → W.heap.size ≤ x) := by
  have C := hide (segTwin_calls B s S W hX)
  clear hX
  go_enter Tryz.func94, Tryz.ntmps94
  go_wp2_with fail
  refine C.out.mono ?_
  rintro e w2 ⟨m', rfl, hI, hb⟩
  have HI := hide hI
  have Hb := hide hb
  clear hI hb C
  go_wp2_with fail
  go_ret2
  exact ⟨m', rfl, HI.out.lower hB, fun x h => .inr (HI.out.types h).1, touch_new Hb.out, fun x h => (HI.out.types h).1⟩

theorem callCut (B b : Nat) (pos : Int) (s : SegM) (S : SegD) (W : World) (hX : IsSeg W B s S) (hB : B ≤ W.heap.size) (hb : Caught W b pos) (hp : Pow W) (he : segCutE S pos = 0) :
    Calls Tryz.prog 180 #[.pointer (some ⟨s.p, 0, none⟩), .pointer (some ⟨b, 0, none⟩)] W fun x W' => ∃ m', x = .returned (.tuple #[.pointer (some ⟨m'.p, 0, none⟩), .int .i64 0]) ∧ IsSeg W' B m' (segCutS S pos) ∧ (∀ x, m'.on x → s.on x ∨ W.heap.size ≤ x) ∧ Touch s.on W W' ∧ (m'.p = s.p ∧ m'.dp = s.dp) ∧ Caught W' b pos := by
  have C := hide (segCut_calls B s S pos W hX hB hp)
  rw [he] at C
  have hc := hb.cell
  have Hb := hide hb
  have HX := hide hX
  clear hX hb
  go_enter Tryz.func180, Tryz.ntmps180
  go_wp2_with fail
  refine C.out.mono ?_
  rintro e w2 ⟨rfl, m', h1, h2, h3, h4, h5, h6⟩
  have H4 := hide h4
  have H5 := hide h5
  clear h4 h5 C hc
  go_wp2_with fail
  go_ret2
  exact ⟨m', by rw [h1]; rfl, H4.out, h6, H5.out, ⟨h1, h2⟩, Hb.out.touch HX.out.x H5.out⟩

theorem callNew (b : Nat) (room : Int) (q : Option Addr) (W : World) (hb : Caught W b room) (h1 : 1 ≤ room) (h2 : room ≤ 1048576) :
    Calls Tryz.prog 88 #[.pointer q, .pointer (some ⟨b, 0, none⟩)] W fun x W' => ∃ m', x = .returned (.tuple #[.pointer (some ⟨m'.p, 0, none⟩), .int .i64 0]) ∧ IsSeg W' W.heap.size m' (emptyS ⟨room, [], 0⟩) ∧ Below W.heap.size W W' := by
  have hc := hb.cell
  have C1 := hide (diskNew_calls room W h1 h2)
  clear hb
  go_enter Tryz.func88, Tryz.ntmps88
  go_wp2_with fail
  refine C1.out.mono ?_
  rintro e w2 ⟨rfl, d2, b2⟩
  have C2 := hide (segOpen_on W w2 _ _ _ (emptyS ⟨room, [], 0⟩) d2 b2 rfl)
  clear d2 C1 hc
  go_wp2_with fail
  refine C2.out.mono ?_
  rintro e w3 ⟨q, dg, sg, c, rfl, I3, b3, -⟩
  go_wp2_with fail
  go_ret2
  exact ⟨_, rfl, I3, b3⟩

set_option maxHeartbeats 1000000 in
set_option maxRecDepth 100000 in
theorem segsTrim_calls (B : Nat) (pos : Int) (ss : List SegM) (Ss : List SegD) (w : World) (hs : Segs w B ss Ss) (hB : B ≤ w.heap.size) (hok : ∀ S ∈ Ss, S.ok) (hp : PowF B w) (p0 p1 p2 p3 p4 p5 p6 p7 : Nat) (hps : ptrs ss = [p0, p1, p2, p3, p4, p5, p6, p7]) :
    Calls Tryz.prog 83 #[.agg #[.pointer (some ⟨p0, 0, none⟩), .pointer (some ⟨p1, 0, none⟩), .pointer (some ⟨p2, 0, none⟩), .pointer (some ⟨p3, 0, none⟩), .pointer (some ⟨p4, 0, none⟩), .pointer (some ⟨p5, 0, none⟩), .pointer (some ⟨p6, 0, none⟩), .pointer (some ⟨p7, 0, none⟩)], .int .i64 pos] w fun x w' =>
      ∃ ss', x = .returned (.tuple #[]) ∧ Segs w' B ss' (Ss.map (fun S => segTrimS S pos)) ∧ ss'.length = 8 ∧ ptrs ss' = ptrs ss ∧ (∀ x, onAll ss' x → onAll ss x ∨ w.heap.size ≤ x) ∧ Touch (onAll ss) w w' := by
  have h8 : ss.length = 8 := by have := congrArg List.length hps; simpa [ptrs] using this
  obtain ⟨W0, hW0⟩ : ∃ W0, (w.alloc (.cells #[.pointer (some ⟨p0, 0, none⟩), .pointer (some ⟨p1, 0, none⟩), .pointer (some ⟨p2, 0, none⟩), .pointer (some ⟨p3, 0, none⟩), .pointer (some ⟨p4, 0, none⟩), .pointer (some ⟨p5, 0, none⟩), .pointer (some ⟨p6, 0, none⟩), .pointer (some ⟨p7, 0, none⟩)] 83)).alloc (.cells #[.int .i64 pos] 3) = W0 := ⟨_, rfl⟩
  have B0 : Below w.heap.size w W0 := by rw [← hW0]; exact ((Below.refl _ w).alloc (Nat.le_refl _) _).alloc (by simp) _
  have s0 : W0.heap.size = w.heap.size + 2 := by rw [← hW0]; simp
  have x0 : Caught W0 (w.heap.size + 1) pos := by
    rw [← hW0]
    have := World.alloc_heap_new (w.alloc (.cells #[.pointer (some ⟨p0, 0, none⟩), .pointer (some ⟨p1, 0, none⟩), .pointer (some ⟨p2, 0, none⟩), .pointer (some ⟨p3, 0, none⟩), .pointer (some ⟨p4, 0, none⟩), .pointer (some ⟨p5, 0, none⟩), .pointer (some ⟨p6, 0, none⟩), .pointer (some ⟨p7, 0, none⟩)] 83)) (.cells #[.int .i64 pos] 3)
    rwa [World.size_alloc] at this
  have C := hide (eachSegs_calls 145 #[.pointer (some ⟨w.heap.size + 1, 0, none⟩)] (enters_of Tryz.func145 (by kernel_rfl) rfl) (fun S => segTrimS S pos) (fun s m' => m'.p = s.p ∧ m'.dp = s.dp) (fun W => Caught W (w.heap.size + 1) pos) B ss Ss W0 (hs.keep B0) (by omega) p0 p1 p2 p3 p4 p5 p6 p7 hps (fun W hW => keepB x0 hW)
    (caught_still _ _ _ (by omega))
    (fun W k s S hs1 hS1 hz hb hX h => (callTrim B (w.heap.size + 1) pos s S W (hX.seg (hok S (List.mem_of_getElem? hS1))) (by omega) h ((hp.below (B0.mono hB)).below hb).pow).mono fun x W' ⟨m', h1, h2, h3, h4, h5, h6⟩ => ⟨m', h1, h2.x, h3, h4, h5, h6⟩))
  have HW := hide hW0
  clear hW0 x0 hs
  go_enter Tryz.func83, Tryz.ntmps83
  go_wp2_with fail
  rw [HW.out]
  refine C.out.mono ?_
  rintro e w1 ⟨ss', rfl, hs1, h81, hn1, t1, hR, -⟩
  have hpp : ptrs ss' = ptrs ss := by
    apply List.ext_getElem?
    intro i
    unfold ptrs
    rw [List.getElem?_map, List.getElem?_map]
    rcases Nat.lt_or_ge i 8 with h | h
    · obtain ⟨s, e1⟩ : ∃ s, ss[i]? = some s := ⟨_, List.getElem?_eq_getElem (by omega)⟩
      obtain ⟨s', e2⟩ : ∃ s', ss'[i]? = some s' := ⟨_, List.getElem?_eq_getElem (by omega)⟩
      rw [e1, e2, Option.map_some, Option.map_some, (hR i s s' e1 e2).1]
    · rw [List.getElem?_eq_none (by omega), List.getElem?_eq_none (by omega)]
  have Hs := hide hs1
  have Hn := hide (fun x hx => (hn1 x hx).imp (fun h => h) fun h => (by omega : w.heap.size ≤ x))
  have HT := hide (t1.of_touch B0)
  have Hpp := hide hpp
  clear hs1 hn1 t1 hR C hpp
  go_wp2_with fail
  go_end0
  exact ⟨ss', rfl, Hs.out, h81, Hpp.out, Hn.out, HT.out⟩

set_option maxHeartbeats 1000000 in
set_option maxRecDepth 100000 in
theorem segsSeal_calls (B : Nat) (pos : Int) (ss : List SegM) (Ss : List SegD) (w : World) (hs : Segs w B ss Ss) (hB : B ≤ w.heap.size) (hok : ∀ S ∈ Ss, S.ok) (hp : PowF B w) (he : ∀ S ∈ Ss, ¬ pos ≤ S.sealed → segSealE S pos = 0) (p0 p1 p2 p3 p4 p5 p6 p7 : Nat) (hps : ptrs ss = [p0, p1, p2, p3, p4, p5, p6, p7]) :
    Calls Tryz.prog 74 #[.agg #[.pointer (some ⟨p0, 0, none⟩), .pointer (some ⟨p1, 0, none⟩), .pointer (some ⟨p2, 0, none⟩), .pointer (some ⟨p3, 0, none⟩), .pointer (some ⟨p4, 0, none⟩), .pointer (some ⟨p5, 0, none⟩), .pointer (some ⟨p6, 0, none⟩), .pointer (some ⟨p7, 0, none⟩)], .int .i64 pos] w fun x w' =>
      ∃ ss', x = .returned (.int .i64 0) ∧ Segs w' B ss' (Ss.map (sealTo pos)) ∧ ss'.length = 8 ∧ ptrs ss' = ptrs ss ∧ (∀ x, onAll ss' x → onAll ss x ∨ w.heap.size ≤ x) ∧ Touch (onAll ss) w w' := by
  have h8 : ss.length = 8 := by have := congrArg List.length hps; simpa [ptrs] using this
  obtain ⟨W0, hW0⟩ : ∃ W0, (w.alloc (.cells #[.pointer (some ⟨p0, 0, none⟩), .pointer (some ⟨p1, 0, none⟩), .pointer (some ⟨p2, 0, none⟩), .pointer (some ⟨p3, 0, none⟩), .pointer (some ⟨p4, 0, none⟩), .pointer (some ⟨p5, 0, none⟩), .pointer (some ⟨p6, 0, none⟩), .pointer (some ⟨p7, 0, none⟩)] 83)).alloc (.cells #[.int .i64 pos] 3) = W0 := ⟨_, rfl⟩
  have B0 : Below w.heap.size w W0 := by rw [← hW0]; exact ((Below.refl _ w).alloc (Nat.le_refl _) _).alloc (by simp) _
  have s0 : W0.heap.size = w.heap.size + 2 := by rw [← hW0]; simp
  have x0 : Caught W0 (w.heap.size + 1) pos := by
    rw [← hW0]
    have := World.alloc_heap_new (w.alloc (.cells #[.pointer (some ⟨p0, 0, none⟩), .pointer (some ⟨p1, 0, none⟩), .pointer (some ⟨p2, 0, none⟩), .pointer (some ⟨p3, 0, none⟩), .pointer (some ⟨p4, 0, none⟩), .pointer (some ⟨p5, 0, none⟩), .pointer (some ⟨p6, 0, none⟩), .pointer (some ⟨p7, 0, none⟩)] 83)) (.cells #[.int .i64 pos] 3)
    rwa [World.size_alloc] at this
  have C := hide (eachSegs_calls 134 #[.pointer (some ⟨w.heap.size + 1, 0, none⟩)] (enters_of Tryz.func134 (by kernel_rfl) rfl) (sealTo pos) (fun s m' => m'.p = s.p ∧ m'.dp = s.dp) (fun W => Caught W (w.heap.size + 1) pos) B ss Ss W0 (hs.keep B0) (by omega) p0 p1 p2 p3 p4 p5 p6 p7 hps (fun W hW => keepB x0 hW)
    (caught_still _ _ _ (by omega))
    (fun W k s S hs1 hS1 hz hb hX h => (callSeal B (w.heap.size + 1) pos s S W (hX.seg (hok S (List.mem_of_getElem? hS1))) (by omega) h ((hp.below (B0.mono hB)).below hb).pow (he S (List.mem_of_getElem? hS1))).mono fun x W' ⟨m', h1, h2, h3, h4, h5, h6⟩ => ⟨m', h1, h2.x, h3, h4, h5, h6⟩))
  have HW := hide hW0
  clear hW0 x0 hs
  go_enter Tryz.func74, Tryz.ntmps74
  go_wp2_with fail
  rw [HW.out]
  refine C.out.mono ?_
  rintro e w1 ⟨ss', rfl, hs1, h81, hn1, t1, hR, -⟩
  have hpp : ptrs ss' = ptrs ss := by
    apply List.ext_getElem?
    intro i
    unfold ptrs
    rw [List.getElem?_map, List.getElem?_map]
    rcases Nat.lt_or_ge i 8 with h | h
    · obtain ⟨s, e1⟩ : ∃ s, ss[i]? = some s := ⟨_, List.getElem?_eq_getElem (by omega)⟩
      obtain ⟨s', e2⟩ : ∃ s', ss'[i]? = some s' := ⟨_, List.getElem?_eq_getElem (by omega)⟩
      rw [e1, e2, Option.map_some, Option.map_some, (hR i s s' e1 e2).1]
    · rw [List.getElem?_eq_none (by omega), List.getElem?_eq_none (by omega)]
  have Hs := hide hs1
  have Hn := hide (fun x hx => (hn1 x hx).imp (fun h => h) fun h => (by omega : w.heap.size ≤ x))
  have HT := hide (t1.of_touch B0)
  have Hpp := hide hpp
  clear hs1 hn1 t1 hR C hpp
  have hq8 := h81
  obtain ⟨q0, q1, q2, q3, q4, q5, q6, q7, hq9⟩ := eight_of (l := ptrs ss') (by simp [ptrs, h81])
  have ef8 : (fillV (adrs (ptrs ss'))).toArray = #[.pointer (some ⟨q0, 0, none⟩), .pointer (some ⟨q1, 0, none⟩), .pointer (some ⟨q2, 0, none⟩), .pointer (some ⟨q3, 0, none⟩), .pointer (some ⟨q4, 0, none⟩), .pointer (some ⟨q5, 0, none⟩), .pointer (some ⟨q6, 0, none⟩), .pointer (some ⟨q7, 0, none⟩)] := by rw [hq9]; rfl
  rw [ef8]
  clear ef8 hq9
  go_wp2_with fail
  go_ret
  exact ⟨ss', rfl, Hs.out.keep (box_below w1 _), h81, Hpp.out, Hn.out, HT.out.new (box_below w1 _)⟩

end Go.Proofs.YtjbjjfndkpcciaaGreatDoor

/- maint's twins, cut, newSegments. Own work; no statement. -/
set_option linter.unusedSimpArgs false
set_option linter.unusedVariables false
namespace Go.Proofs.YtjbjjfndkpcciaaGreatDoor
open Go.RowKit Go.Shelf Go.Sort

set_option maxHeartbeats 1000000 in
set_option maxRecDepth 100000 in
/-- Twins of all: in memory of their own; the others are as they were. -/
theorem segsTwins_calls (B : Nat) (ss : List SegM) (Ss : List SegD) (w : World) (hs : Segs w B ss Ss) (hB : B ≤ w.heap.size) (p0 p1 p2 p3 p4 p5 p6 p7 : Nat) (hps : ptrs ss = [p0, p1, p2, p3, p4, p5, p6, p7]) :
    Calls Tryz.prog 44 #[.agg #[.pointer (some ⟨p0, 0, none⟩), .pointer (some ⟨p1, 0, none⟩), .pointer (some ⟨p2, 0, none⟩), .pointer (some ⟨p3, 0, none⟩), .pointer (some ⟨p4, 0, none⟩), .pointer (some ⟨p5, 0, none⟩), .pointer (some ⟨p6, 0, none⟩), .pointer (some ⟨p7, 0, none⟩)]] w fun x w' =>
      ∃ ss', x = .returned (.agg (fillV (adrs (ptrs ss'))).toArray) ∧ Segs w' B ss' Ss ∧ ss'.length = 8 ∧ (∀ x, onAll ss' x → w.heap.size ≤ x) ∧ Touch (onAll ss) w w' := by
  have h8 : ss.length = 8 := by have := congrArg List.length hps; simpa [ptrs] using this
  obtain ⟨W0, hW0⟩ : ∃ W0, (w.alloc (.cells #[.pointer (some ⟨p0, 0, none⟩), .pointer (some ⟨p1, 0, none⟩), .pointer (some ⟨p2, 0, none⟩), .pointer (some ⟨p3, 0, none⟩), .pointer (some ⟨p4, 0, none⟩), .pointer (some ⟨p5, 0, none⟩), .pointer (some ⟨p6, 0, none⟩), .pointer (some ⟨p7, 0, none⟩)] 83)).alloc (.cells #[.pointer none, .pointer none, .pointer none, .pointer none, .pointer none, .pointer none, .pointer none, .pointer none] 83) = W0 := ⟨_, rfl⟩
  have B0 : Below w.heap.size w W0 := by rw [← hW0]; exact ((Below.refl _ w).alloc (Nat.le_refl _) _).alloc (by simp) _
  have s0 : W0.heap.size = w.heap.size + 2 := by rw [← hW0]; simp
  have x0 : Box8 W0 (w.heap.size + 1) [] := by
    rw [← hW0]
    have := World.alloc_heap_new (w.alloc (.cells #[.pointer (some ⟨p0, 0, none⟩), .pointer (some ⟨p1, 0, none⟩), .pointer (some ⟨p2, 0, none⟩), .pointer (some ⟨p3, 0, none⟩), .pointer (some ⟨p4, 0, none⟩), .pointer (some ⟨p5, 0, none⟩), .pointer (some ⟨p6, 0, none⟩), .pointer (some ⟨p7, 0, none⟩)] 83)) (.cells #[.pointer none, .pointer none, .pointer none, .pointer none, .pointer none, .pointer none, .pointer none, .pointer none] 83)
    rwa [World.size_alloc] at this
  have C := hide (eachSegs_calls 94 #[] (enters_of Tryz.func94 (by kernel_rfl) rfl) (fun S => S) (fun s m' => ∀ x, m'.on x → W0.heap.size ≤ x) (fun W => Box8 W (w.heap.size + 1) []) B ss Ss W0 (hs.keep B0) (by omega) p0 p1 p2 p3 p4 p5 p6 p7 hps (fun W hW => keepB x0 hW)
    (fun W W' i c f h hi hc t => (t.block _ (ltAt h) (by omega)).trans h)
    (fun W k s S hs1 hS1 hz hb hX h => (callTwin B s S W hX (by omega)).mono fun x W' ⟨m', h1, h2, h3, h4, h5⟩ => ⟨m', h1, h2, h3, h4, fun x hx => Nat.le_trans hz (h5 x hx), (h4.block _ (ltAt h) (hX.not_on h ⟨by decide, by decide, by decide, by decide⟩)).trans h⟩))
  rw [List.map_id'] at C
  have HW := hide hW0
  clear hW0 x0 hs hps
  go_enter Tryz.func44, Tryz.ntmps44
  go_wp2_with fail
  rw [HW.out]
  refine C.out.mono ?_
  rintro e w1 ⟨ss', rfl, hs1, h81, hn1, t1, hR, y1⟩
  obtain ⟨q0, q1, q2, q3, q4, q5, q6, q7, hq8⟩ := eight_of (l := ptrs ss') (by simp [ptrs, h81])
  have ef8 : (fillV (adrs (ptrs ss'))).toArray = #[.pointer (some ⟨q0, 0, none⟩), .pointer (some ⟨q1, 0, none⟩), .pointer (some ⟨q2, 0, none⟩), .pointer (some ⟨q3, 0, none⟩), .pointer (some ⟨q4, 0, none⟩), .pointer (some ⟨q5, 0, none⟩), .pointer (some ⟨q6, 0, none⟩), .pointer (some ⟨q7, 0, none⟩)] := by rw [hq8]; rfl
  rw [ef8]
  have bA := box_below w1 (.cells #[.pointer (some ⟨q0, 0, none⟩), .pointer (some ⟨q1, 0, none⟩), .pointer (some ⟨q2, 0, none⟩), .pointer (some ⟨q3, 0, none⟩), .pointer (some ⟨q4, 0, none⟩), .pointer (some ⟨q5, 0, none⟩), .pointer (some ⟨q6, 0, none⟩), .pointer (some ⟨q7, 0, none⟩)] 83)
  have y2 := keepB y1 bA
  have Y2 := hide y2
  obtain ⟨⟨e0, e1, e2, e3, e4, e5, e6, e7⟩, g0, g1, g2, g3, g4, g5, g6, g7⟩ := cells8 y2
  have hsA := bA.size
  clear y1 C
  go_wp2_with fail
  have e5 := put8_heap Y2.out (.pointer (some ⟨q0, 0, none⟩)) (.pointer (some ⟨q1, 0, none⟩)) (.pointer (some ⟨q2, 0, none⟩)) (.pointer (some ⟨q3, 0, none⟩)) (.pointer (some ⟨q4, 0, none⟩)) (.pointer (some ⟨q5, 0, none⟩)) (.pointer (some ⟨q6, 0, none⟩)) (.pointer (some ⟨q7, 0, none⟩))
  have t5 := put8_touch (W := w1.alloc (.cells #[.pointer (some ⟨q0, 0, none⟩), .pointer (some ⟨q1, 0, none⟩), .pointer (some ⟨q2, 0, none⟩), .pointer (some ⟨q3, 0, none⟩), .pointer (some ⟨q4, 0, none⟩), .pointer (some ⟨q5, 0, none⟩), .pointer (some ⟨q6, 0, none⟩), .pointer (some ⟨q7, 0, none⟩)] 83)) (b := w.heap.size + 1) (.pointer (some ⟨q0, 0, none⟩)) (.pointer (some ⟨q1, 0, none⟩)) (.pointer (some ⟨q2, 0, none⟩)) (.pointer (some ⟨q3, 0, none⟩)) (.pointer (some ⟨q4, 0, none⟩)) (.pointer (some ⟨q5, 0, none⟩)) (.pointer (some ⟨q6, 0, none⟩)) (.pointer (some ⟨q7, 0, none⟩))
  obtain ⟨W5, hW5⟩ : ∃ W5, put8 (w1.alloc (.cells #[.pointer (some ⟨q0, 0, none⟩), .pointer (some ⟨q1, 0, none⟩), .pointer (some ⟨q2, 0, none⟩), .pointer (some ⟨q3, 0, none⟩), .pointer (some ⟨q4, 0, none⟩), .pointer (some ⟨q5, 0, none⟩), .pointer (some ⟨q6, 0, none⟩), .pointer (some ⟨q7, 0, none⟩)] 83)) (w.heap.size + 1) (.pointer (some ⟨q0, 0, none⟩)) (.pointer (some ⟨q1, 0, none⟩)) (.pointer (some ⟨q2, 0, none⟩)) (.pointer (some ⟨q3, 0, none⟩)) (.pointer (some ⟨q4, 0, none⟩)) (.pointer (some ⟨q5, 0, none⟩)) (.pointer (some ⟨q6, 0, none⟩)) (.pointer (some ⟨q7, 0, none⟩)) = W5 := ⟨_, rfl⟩
  rw [hW5] at e5 t5
  unfold put8 at hW5
  rw [hW5]
  obtain ⟨⟨k0, k1, k2, k3, k4, k5, k6, k7⟩, -⟩ := cells8 e5
  refine bodyPost_ret (v := .agg #[.pointer (some ⟨q0, 0, none⟩), .pointer (some ⟨q1, 0, none⟩), .pointer (some ⟨q2, 0, none⟩), .pointer (some ⟨q3, 0, none⟩), .pointer (some ⟨q4, 0, none⟩), .pointer (some ⟨q5, 0, none⟩), .pointer (some ⟨q6, 0, none⟩), .pointer (some ⟨q7, 0, none⟩)]) (by simp [results, Tryz.f44, go_sem, k0, k1, k2, k3, k4, k5, k6, k7]) rfl ?_
  refine ⟨ss', by rw [ef8], (hs1.keep bA).box8 Y2.out t5, h81, fun x ⟨k, s', hk, hx⟩ => ?_, (((t1.new bA).of_touch B0).upper t5 fun x hx => by rw [hx]; omega)⟩
  have hk8 := (List.getElem?_eq_some_iff.1 hk).1
  have := hR k _ s' (List.getElem?_eq_getElem (by omega : k < ss.length)) hk x hx
  omega

set_option maxHeartbeats 2000000 in
set_option maxRecDepth 100000 in
/-- All are cut, in twins of them. -/
theorem segsCut_calls (B : Nat) (pos : Int) (ss : List SegM) (Ss : List SegD) (w : World) (hs : Segs w B ss Ss) (hB : B ≤ w.heap.size) (hok : ∀ S ∈ Ss, S.ok) (he : ∀ S ∈ Ss, segCutE S pos = 0) (hp : PowF B w) (p0 p1 p2 p3 p4 p5 p6 p7 : Nat) (hps : ptrs ss = [p0, p1, p2, p3, p4, p5, p6, p7]) :
    Calls Tryz.prog 131 #[.agg #[.pointer (some ⟨p0, 0, none⟩), .pointer (some ⟨p1, 0, none⟩), .pointer (some ⟨p2, 0, none⟩), .pointer (some ⟨p3, 0, none⟩), .pointer (some ⟨p4, 0, none⟩), .pointer (some ⟨p5, 0, none⟩), .pointer (some ⟨p6, 0, none⟩), .pointer (some ⟨p7, 0, none⟩)], .int .i64 pos] w fun x w' =>
      ∃ ss', x = .returned (.tuple #[.agg (fillV (adrs (ptrs ss'))).toArray, .int .i64 0]) ∧ Segs w' B ss' (Ss.map fun S => segCutS S pos) ∧ ss'.length = 8 ∧ (∀ x, onAll ss' x → w.heap.size ≤ x) ∧ Touch (onAll ss) w w' := by
  have h8 : ss.length = 8 := by have := congrArg List.length hps; simpa [ptrs] using this
  obtain ⟨W0, hW0⟩ : ∃ W0, ((w.alloc (.cells #[.pointer (some ⟨p0, 0, none⟩), .pointer (some ⟨p1, 0, none⟩), .pointer (some ⟨p2, 0, none⟩), .pointer (some ⟨p3, 0, none⟩), .pointer (some ⟨p4, 0, none⟩), .pointer (some ⟨p5, 0, none⟩), .pointer (some ⟨p6, 0, none⟩), .pointer (some ⟨p7, 0, none⟩)] 83)).alloc (.cells #[.int .i64 pos] 3)).alloc (.cells #[.pointer none, .pointer none, .pointer none, .pointer none, .pointer none, .pointer none, .pointer none, .pointer none] 83) = W0 := ⟨_, rfl⟩
  have B0 : Below w.heap.size w W0 := by rw [← hW0]; exact (((Below.refl _ w).alloc (Nat.le_refl _) _).alloc (by simp) _).alloc (by simp; omega) _
  have s0 : W0.heap.size = w.heap.size + 3 := by rw [← hW0]; simp
  have x1 : Caught W0 (w.heap.size + 1) pos := by
    rw [← hW0]
    have := World.alloc_heap_new (w.alloc (.cells #[.pointer (some ⟨p0, 0, none⟩), .pointer (some ⟨p1, 0, none⟩), .pointer (some ⟨p2, 0, none⟩), .pointer (some ⟨p3, 0, none⟩), .pointer (some ⟨p4, 0, none⟩), .pointer (some ⟨p5, 0, none⟩), .pointer (some ⟨p6, 0, none⟩), .pointer (some ⟨p7, 0, none⟩)] 83)) (.cells #[.int .i64 pos] 3)
    rw [World.size_alloc] at this
    exact (Below.heap_alloc _ _ _ (by simp)).trans this
  have x2 : Box8 W0 (w.heap.size + 2) [] := by
    rw [← hW0]
    have := World.alloc_heap_new ((w.alloc (.cells #[.pointer (some ⟨p0, 0, none⟩), .pointer (some ⟨p1, 0, none⟩), .pointer (some ⟨p2, 0, none⟩), .pointer (some ⟨p3, 0, none⟩), .pointer (some ⟨p4, 0, none⟩), .pointer (some ⟨p5, 0, none⟩), .pointer (some ⟨p6, 0, none⟩), .pointer (some ⟨p7, 0, none⟩)] 83)).alloc (.cells #[.int .i64 pos] 3)) (.cells #[.pointer none, .pointer none, .pointer none, .pointer none, .pointer none, .pointer none, .pointer none, .pointer none] 83)
    rwa [World.size_alloc, World.size_alloc] at this
  have C := hide (segsTwins_calls B ss Ss W0 (hs.keep B0) (by omega) p0 p1 p2 p3 p4 p5 p6 p7 hps)
  have hlt : ∀ x, onAll ss x → x < w.heap.size ∧ B ≤ x := fun x hx => ⟨(hs.on hx).2, (hs.on hx).1⟩
  have HW := hide hW0
  clear hW0 hs hps
  go_enter Tryz.func131, Tryz.ntmps131
  go_wp2_with fail
  simp only [Nat.add_assoc, Nat.reduceAdd]
  rw [HW.out]
  refine C.out.mono ?_
  rintro e w1 ⟨ts, rfl, ht1, h81, hn1, t1⟩
  have z1 : Caught w1 (w.heap.size + 1) pos := (t1.block _ (ltAt x1) fun h => by have := (hlt _ h).1; omega).trans x1
  have z2 : Box8 w1 (w.heap.size + 2) [] := (t1.block _ (ltAt x2) fun h => by have := (hlt _ h).1; omega).trans x2
  have B1 : Below B W0 w1 := t1.below (by omega) fun x _ h => (hlt x h).2
  have t01 : Touch (onAll ss) w w1 := t1.of_touch B0
  have s1 := t1.size
  obtain ⟨r0, r1, r2, r3, r4, r5, r6, r7, hq8⟩ := eight_of (l := ptrs ts) (by simp [ptrs, h81])
  have ef8 : (fillV (adrs (ptrs ts))).toArray = #[.pointer (some ⟨r0, 0, none⟩), .pointer (some ⟨r1, 0, none⟩), .pointer (some ⟨r2, 0, none⟩), .pointer (some ⟨r3, 0, none⟩), .pointer (some ⟨r4, 0, none⟩), .pointer (some ⟨r5, 0, none⟩), .pointer (some ⟨r6, 0, none⟩), .pointer (some ⟨r7, 0, none⟩)] := by rw [hq8]; rfl
  rw [ef8]
  have C2 := hide (eachSegs_calls 180 #[.pointer (some ⟨w.heap.size + 1, 0, none⟩)] (enters_of Tryz.func180 (by kernel_rfl) rfl) (fun S => segCutS S pos) (fun s m' => m'.p = s.p ∧ m'.dp = s.dp) (fun W => Caught W (w.heap.size + 1) pos ∧ Box8 W (w.heap.size + 2) []) B ts Ss w1 ht1 (by omega) r0 r1 r2 r3 r4 r5 r6 r7 hq8 (fun W hW => ⟨keepB z1 hW, keepB z2 hW⟩)
    (fun W W' i c f h hi hc t => ⟨caught_still _ _ _ (by omega) W W' i c f h.1 hi hc t, (t.block _ (ltAt h.2) (by omega)).trans h.2⟩)
    (fun W k s S hs1 hS1 hz hb hX h => (callCut B (w.heap.size + 1) pos s S W (hX.seg (hok S (List.mem_of_getElem? hS1))) (by omega) h.1 (((hp.below (B0.mono hB)).below (B1.trans hb)).pow) (he S (List.mem_of_getElem? hS1))).mono fun x W' ⟨m', h1, h2, h3, h4, h5, h6⟩ => ⟨m', h1, h2.x, h3, h4, h5, h6, (h4.block _ (ltAt h.2) (hX.not_on h.2 ⟨by decide, by decide, by decide, by decide⟩)).trans h.2⟩))
  clear ef8 hq8 z1 z2 x1 x2 C ht1 t1
  go_wp2_with fail
  refine C2.out.mono ?_
  rintro e w2 ⟨ss', rfl, hs2, h82, hn2, t2, -, -, y2⟩
  obtain ⟨q0, q1, q2, q3, q4, q5, q6, q7, hq8⟩ := eight_of (l := ptrs ss') (by simp [ptrs, h82])
  have ef8 : (fillV (adrs (ptrs ss'))).toArray = #[.pointer (some ⟨q0, 0, none⟩), .pointer (some ⟨q1, 0, none⟩), .pointer (some ⟨q2, 0, none⟩), .pointer (some ⟨q3, 0, none⟩), .pointer (some ⟨q4, 0, none⟩), .pointer (some ⟨q5, 0, none⟩), .pointer (some ⟨q6, 0, none⟩), .pointer (some ⟨q7, 0, none⟩)] := by rw [hq8]; rfl
  rw [ef8]
  have Y2 := hide y2
  obtain ⟨⟨e0, e1, e2, e3, e4, e5, e6, e7⟩, g0, g1, g2, g3, g4, g5, g6, g7⟩ := cells8 y2
  clear y2 C2
  go_wp2_with fail
  have e5 := put8_heap Y2.out (.pointer (some ⟨q0, 0, none⟩)) (.pointer (some ⟨q1, 0, none⟩)) (.pointer (some ⟨q2, 0, none⟩)) (.pointer (some ⟨q3, 0, none⟩)) (.pointer (some ⟨q4, 0, none⟩)) (.pointer (some ⟨q5, 0, none⟩)) (.pointer (some ⟨q6, 0, none⟩)) (.pointer (some ⟨q7, 0, none⟩))
  have t5 := put8_touch (W := w2) (b := w.heap.size + 2) (.pointer (some ⟨q0, 0, none⟩)) (.pointer (some ⟨q1, 0, none⟩)) (.pointer (some ⟨q2, 0, none⟩)) (.pointer (some ⟨q3, 0, none⟩)) (.pointer (some ⟨q4, 0, none⟩)) (.pointer (some ⟨q5, 0, none⟩)) (.pointer (some ⟨q6, 0, none⟩)) (.pointer (some ⟨q7, 0, none⟩))
  obtain ⟨W5, hW5⟩ : ∃ W5, put8 (w2) (w.heap.size + 2) (.pointer (some ⟨q0, 0, none⟩)) (.pointer (some ⟨q1, 0, none⟩)) (.pointer (some ⟨q2, 0, none⟩)) (.pointer (some ⟨q3, 0, none⟩)) (.pointer (some ⟨q4, 0, none⟩)) (.pointer (some ⟨q5, 0, none⟩)) (.pointer (some ⟨q6, 0, none⟩)) (.pointer (some ⟨q7, 0, none⟩)) = W5 := ⟨_, rfl⟩
  rw [hW5] at e5 t5
  unfold put8 at hW5
  rw [hW5]
  obtain ⟨⟨k0, k1, k2, k3, k4, k5, k6, k7⟩, -⟩ := cells8 e5
  refine bodyPost_ret (v := .tuple #[.agg #[.pointer (some ⟨q0, 0, none⟩), .pointer (some ⟨q1, 0, none⟩), .pointer (some ⟨q2, 0, none⟩), .pointer (some ⟨q3, 0, none⟩), .pointer (some ⟨q4, 0, none⟩), .pointer (some ⟨q5, 0, none⟩), .pointer (some ⟨q6, 0, none⟩), .pointer (some ⟨q7, 0, none⟩)], .int .i64 0]) (by simp [results, Tryz.f131, go_sem, k0, k1, k2, k3, k4, k5, k6, k7]) rfl ?_
  refine ⟨ss', by rw [ef8], hs2.box8 Y2.out t5, h82, fun x hx => ?_, ((t01.next t2 fun x hx h => ?_).upper t5 fun x hx => by rw [hx]; omega)⟩
  · rcases hn2 x hx with h | h
    · have := hn1 x h
      omega
    · omega
  · have := hn1 x h
    omega

set_option maxHeartbeats 2000000 in
set_option maxRecDepth 100000 in
theorem newSegments_calls (room : Int) (w : World) (h1 : 1 ≤ room) (h2 : room ≤ 1048576) :
    Calls Tryz.prog 40 #[.int .i64 room] w fun x w' =>
      ∃ ss', x = .returned (.tuple #[.agg (fillV (adrs (ptrs ss'))).toArray, .int .i64 0]) ∧ Segs w' w.heap.size ss' (List.replicate 8 (emptyS ⟨room, [], 0⟩)) ∧ ss'.length = 8 ∧ (∀ x, onAll ss' x → w.heap.size ≤ x) ∧ Below w.heap.size w w' := by
  obtain ⟨W0, hW0⟩ : ∃ W0, (w.alloc (.cells #[.int .i64 room] 3)).alloc (.cells #[.pointer none, .pointer none, .pointer none, .pointer none, .pointer none, .pointer none, .pointer none, .pointer none] 83) = W0 := ⟨_, rfl⟩
  have B0 : Below w.heap.size w W0 := by rw [← hW0]; exact ((Below.refl _ w).alloc (Nat.le_refl _) _).alloc (by simp) _
  have s0 : W0.heap.size = w.heap.size + 2 := by rw [← hW0]; simp
  have x1 : Caught W0 w.heap.size room := by
    rw [← hW0]
    exact (Below.heap_alloc _ _ _ (by simp)).trans (World.alloc_heap_new w _)
  have x2 : Box8 W0 (w.heap.size + 1) [] := by
    rw [← hW0]
    have := World.alloc_heap_new (w.alloc (.cells #[.int .i64 room] 3)) (.cells #[.pointer none, .pointer none, .pointer none, .pointer none, .pointer none, .pointer none, .pointer none, .pointer none] 83)
    rwa [World.size_alloc] at this
  have C := hide (each_calls 88 #[.pointer (some ⟨w.heap.size, 0, none⟩)] (.pointer none) (.pointer none) (.pointer none) (.pointer none) (.pointer none) (.pointer none) (.pointer none) (.pointer none) W0 (enters_of Tryz.func88 (by kernel_rfl) rfl)
    (fun k l W => ∃ cs : List SegM, cs.length = k ∧ l = ptrs cs ∧ Segs W w.heap.size cs (List.replicate k (emptyS ⟨room, [], 0⟩)) ∧ Below w.heap.size w W ∧ Caught W w.heap.size room ∧ Box8 W (w.heap.size + 1) [])
    (fun _ _ => False)
    (fun k l W W' i c f ⟨cs, a1, a2, a3, a4, a5, a6⟩ hi hc t => ⟨cs, a1, a2, a3.box8 hc t, a4.trans (t.below (by have := a4.size; omega) fun x _ hx => by rw [hx]; omega), caught_still _ _ _ (by omega) W W' i c f a5 hi hc t, (t.block _ (ltAt a6) (by omega)).trans a6⟩)
    (fun _ _ _ _ _ _ h => h.elim)
    (fun W hW => ⟨[], rfl, rfl, segs_nil _ _, B0.trans (hW.mono B0.size), keepB x1 hW, keepB x2 hW⟩)
    (fun k l W hk hl hz ⟨cs, a1, a2, a3, a4, a5, a6⟩ => by
      have hq : [(.pointer none : Value), .pointer none, .pointer none, .pointer none, .pointer none, .pointer none, .pointer none, .pointer none].getD k (.pointer none) = .pointer none := by
        match k, hk with
        | 0, _ => rfl
        | 1, _ => rfl
        | 2, _ => rfl
        | 3, _ => rfl
        | 4, _ => rfl
        | 5, _ => rfl
        | 6, _ => rfl
        | 7, _ => rfl
      rw [hq]
      refine (callNew w.heap.size room none W a5 h1 h2).mono ?_
      rintro x W' ⟨m', rfl, hI, hb⟩
      refine ⟨_, 0, rfl, hb.size, fun i c f hi => hb.block i (ltAt hi), .inl ⟨rfl, m'.p, rfl, cs ++ [m'], by simp [a1], by simp [ptrs, a2], ?_, a4.trans (hb.mono a4.size), keepB a5 hb, keepB a6 hb⟩⟩
      rw [List.replicate_succ']
      exact a3.push (touch_new (S := fun _ => False) hb) (firm_none _) (fun _ _ h => h) (hI.x.lower a4.size) fun x hx hx' => by
        have e1 := (hI.x.types hx).1
        have e2 := (a3.on hx').2
        omega))
  have HW := hide hW0
  clear hW0 x1 x2
  go_enter Tryz.func40, Tryz.ntmps40
  go_wp2_with fail
  rw [HW.out]
  refine C.out.mono ?_
  rintro e w2 ⟨l, E, rfl, h | ⟨-, h⟩⟩
  · obtain ⟨rfl, qs, rfl, -, ss', h82, rfl, hs2, b2, -, y2⟩ := h
    obtain ⟨q0, q1, q2, q3, q4, q5, q6, q7, hq8⟩ := eight_of (l := ptrs ss') (by simp [ptrs, h82])
    have ef8 : (fillV (adrs (ptrs ss'))).toArray = #[.pointer (some ⟨q0, 0, none⟩), .pointer (some ⟨q1, 0, none⟩), .pointer (some ⟨q2, 0, none⟩), .pointer (some ⟨q3, 0, none⟩), .pointer (some ⟨q4, 0, none⟩), .pointer (some ⟨q5, 0, none⟩), .pointer (some ⟨q6, 0, none⟩), .pointer (some ⟨q7, 0, none⟩)] := by rw [hq8]; rfl
    rw [ef8]
    have Y2 := hide y2
    obtain ⟨⟨e0, e1, e2, e3, e4, e5, e6, e7⟩, g0, g1, g2, g3, g4, g5, g6, g7⟩ := cells8 y2
    clear y2 C
    go_wp2_with fail
    have e5 := put8_heap Y2.out (.pointer (some ⟨q0, 0, none⟩)) (.pointer (some ⟨q1, 0, none⟩)) (.pointer (some ⟨q2, 0, none⟩)) (.pointer (some ⟨q3, 0, none⟩)) (.pointer (some ⟨q4, 0, none⟩)) (.pointer (some ⟨q5, 0, none⟩)) (.pointer (some ⟨q6, 0, none⟩)) (.pointer (some ⟨q7, 0, none⟩))
    have t5 := put8_touch (W := w2) (b := w.heap.size + 1) (.pointer (some ⟨q0, 0, none⟩)) (.pointer (some ⟨q1, 0, none⟩)) (.pointer (some ⟨q2, 0, none⟩)) (.pointer (some ⟨q3, 0, none⟩)) (.pointer (some ⟨q4, 0, none⟩)) (.pointer (some ⟨q5, 0, none⟩)) (.pointer (some ⟨q6, 0, none⟩)) (.pointer (some ⟨q7, 0, none⟩))
    obtain ⟨W5, hW5⟩ : ∃ W5, put8 (w2) (w.heap.size + 1) (.pointer (some ⟨q0, 0, none⟩)) (.pointer (some ⟨q1, 0, none⟩)) (.pointer (some ⟨q2, 0, none⟩)) (.pointer (some ⟨q3, 0, none⟩)) (.pointer (some ⟨q4, 0, none⟩)) (.pointer (some ⟨q5, 0, none⟩)) (.pointer (some ⟨q6, 0, none⟩)) (.pointer (some ⟨q7, 0, none⟩)) = W5 := ⟨_, rfl⟩
    rw [hW5] at e5 t5
    unfold put8 at hW5
    rw [hW5]
    obtain ⟨⟨k0, k1, k2, k3, k4, k5, k6, k7⟩, -⟩ := cells8 e5
    refine bodyPost_ret (v := .tuple #[.agg #[.pointer (some ⟨q0, 0, none⟩), .pointer (some ⟨q1, 0, none⟩), .pointer (some ⟨q2, 0, none⟩), .pointer (some ⟨q3, 0, none⟩), .pointer (some ⟨q4, 0, none⟩), .pointer (some ⟨q5, 0, none⟩), .pointer (some ⟨q6, 0, none⟩), .pointer (some ⟨q7, 0, none⟩)], .int .i64 0]) (by simp [results, Tryz.f40, go_sem, k0, k1, k2, k3, k4, k5, k6, k7]) rfl ?_
    exact ⟨ss', by rw [ef8], hs2.box8 Y2.out t5, h82, fun x hx => (hs2.on hx).1, b2.trans (t5.below b2.size fun x _ hx => by rw [hx]; omega)⟩
  · exact h.elim

end Go.Proofs.YtjbjjfndkpcciaaGreatDoor

/- A scope within a fence, through which the run goes without a goto. Own work; no statement. -/
set_option linter.unusedSimpArgs false
set_option linter.unusedVariables false
namespace Go.Proofs.YtjbjjfndkpcciaaGreatDoor
open Go.RowKit

section
variable {F : Fence} {n : Nat} {P : Program} {Q : Exit → Act → World → Prop} {a : Act} {w : World}

theorem stepR_scope {b : Frame} {k : List Item} {cs : List Frame} {c : Code} : step P (lone (b.atR a (.code (.scope c) :: k)) cs w) = .next (lone (b.atR a (.code c :: .inScope c :: k)) cs w) :=
  step_lone_go (by simp [stepG, stepG.exec, Frame.atR])
theorem stepR_inScope {b : Frame} {k : List Item} {cs : List Frame} {c : Code} : step P (lone (b.atR a (.inScope c :: k)) cs w) = .next (lone (b.atR a k) cs w) :=
  step_lone_go (by simp [stepG, stepG.exec, Frame.atR])

theorem wpIn_scope_straight {c : Code} (h : c.wpIn F n P (Exit.noGoto Q) a w) : (Code.scope c).wpIn F n P Q a w := by
  intro b k cs hro hb hr
  have h0 : (lone (b.atR a (.code (.scope c) :: k)) cs w).fenced P F := fenced_calm hb hr rfl
  obtain ⟨e, a₁, w₁, hq, harr⟩ := h b (.inScope c :: k) cs hro hb hr
  cases e with
  | normal => exact ⟨.normal, a₁, w₁, hq, .head h0 stepR_scope (StepsIn.trans harr (.one (fenced_calm hb hr rfl) stepR_inScope))⟩
  | exit id =>
    have hx : exitTo id (.inScope c :: k) = exitTo id k := by simp [exitTo]
    exact ⟨.exit id, a₁, w₁, hq, fun k' hk => .head h0 stepR_scope (harr.1 k' (by rw [hx]; exact hk)), fun hr' hk => let ⟨k₁, h1, h2⟩ := harr.2 hr' (by rw [hx]; exact hk); ⟨k₁, h1, .head h0 stepR_scope h2⟩⟩
  | goto l => exact hq.elim
  | ret => exact ⟨_, a₁, w₁, hq, .of_steps (.one h0 stepR_scope) harr⟩
  | panic ch => exact ⟨_, a₁, w₁, hq, .of_steps (.one h0 stepR_scope) harr⟩
  | outgrown => exact ⟨_, a₁, w₁, hq, .of_steps (.one h0 stepR_scope) harr⟩
end

end Go.Proofs.YtjbjjfndkpcciaaGreatDoor

/- A log's records from a position on, as a sequence. Own work; no statement. -/
set_option linter.unusedSimpArgs false
set_option linter.unusedVariables false
namespace Go.Proofs.YtjbjjfndkpcciaaGreatDoor
open Go.RowKit Go.Shelf Go.Sort

attribute [local go_sem] Oper.semAt_some

/-- The records of so many positions. -/
def LogD.recs (L : LogD) (pos : Int) (N : Nat) : List (Int × RecD) := (List.range N).map fun (i : Nat) => (pos + (i : Int), (L.get (pos + (i : Int))).1)
theorem recs_length (L : LogD) (pos : Int) (N : Nat) : (L.recs pos N).length = N := by simp [LogD.recs]
theorem recs_succ (L : LogD) (pos : Int) (k : Nat) : L.recs pos (k + 1) = L.recs pos k ++ [(pos + (k : Int), (L.get (pos + (k : Int))).1)] := by simp [LogD.recs, List.range_succ]
theorem recs_take (L : LogD) (pos : Int) (N k : Nat) (h : k ≤ N) : L.recs pos k <+: L.recs pos N := by
  unfold LogD.recs
  obtain ⟨d, rfl⟩ : ∃ d, N = k + d := ⟨N - k, by omega⟩
  rw [List.range_add, List.map_append]
  exact List.prefix_append _ _

/-- What a sequence from a position on holds. -/
structure IsFrom (W : World) (B b c : Nat) (m : LogM) (L : LogD) (pos : Int) : Prop where
  at_ : W.heap[b]? = some (.cells #[.int .i64 pos] 3 (0, 0))
  log : W.heap[c]? = some (.cells #[.pointer (some ⟨m.p, 0, none⟩)] 26 (0, 0))
  is : IsLog W B m L

theorem IsSegX.span {w w' : World} {B : Nat} {m : SegM} {S : SegD} (h : IsSegX w B m S) (hz : w.heap.size ≤ w'.heap.size) (hk : ∀ k, k < w.heap.size → w'.heap[k]? = w.heap[k]?) : IsSegX w' B m S :=
  h.keep' hz (fun k e => hk k (h.types e).2.1) fun k c t e _ => hk k (ltAt e)
theorem IsLog.span {w w' : World} {B : Nat} {m : LogM} {L : LogD} (h : IsLog w B m L) (hz : w.heap.size ≤ w'.heap.size) (hk : ∀ k, k < w.heap.size → w'.heap[k]? = w.heap[k]?) : IsLog w' B m L := by
  obtain ⟨vs, vg, hp, h1, h2⟩ := h.val
  exact ⟨h.low, h.own.keep fun k e => hk k (h.own.on e).2, h.n8, ⟨h.segs.len, fun k m S e1 e2 => (h.segs.seg k m S e1 e2).span hz hk, h.segs.apart⟩, h.off, vs, vg, (hk _ (ltAt hp)).trans hp, ownsRow_of_heap h1 fun k e => hk k (h1.lt k e).2, ownsRow_of_heap h2 fun k e => hk k (h2.lt k e).2⟩
/-- All below hi is as it was, but for the blocks of X. -/
def KeepsX (X : Nat → Prop) (hi : Nat) (W W' : World) : Prop := W.heap.size ≤ W'.heap.size ∧ ∀ k, k < hi → ¬ X k → W'.heap[k]? = W.heap[k]?
theorem keepsX_t {X : Nat → Prop} {hi : Nat} {A B C : World} (h : KeepsX X hi A B) (k : KeepsX X hi B C) : KeepsX X hi A C := ⟨Nat.le_trans h.1 k.1, fun i h1 h2 => (k.2 i h1 h2).trans (h.2 i h1 h2)⟩
theorem keepsX_b {X : Nat → Prop} {hi n : Nat} (hn : hi ≤ n) (W : World) (l : Nat) (o o' : Obj) (hl : n ≤ l) (_ : W.heap[l]? = some o) (_ : o.isCells = false) (_ : o.isWalk = false) : KeepsX X hi W (W.putObj l o') := by
  refine ⟨by simp [World.putObj], fun k h1 _ => ?_⟩
  unfold World.putObj
  simp only [Array.getElem?_setIfInBounds]
  rw [if_neg (by omega)]
theorem KeepsX.of_below {X : Nat → Prop} {hi : Nat} {W W' : World} (h : Below W.heap.size W W') (hh : hi ≤ W.heap.size) : KeepsX X hi W W' := ⟨h.size, fun k h2 _ => h.block k (by omega)⟩
theorem keepsX_refl (X : Nat → Prop) (hi : Nat) (W : World) : KeepsX X hi W W := ⟨Nat.le_refl _, fun _ _ _ => rfl⟩

/-- A log is as it was where blocks of other types have turned. -/
theorem IsLog.touchH {w w' : World} {B : Nat} {m : LogM} {L : LogD} {X : Nat → Prop} (h : IsLog w B m L) (hz : w.heap.size ≤ w'.heap.size) (hk : ∀ k, k < w.heap.size → ¬ X k → w'.heap[k]? = w.heap[k]?) (hX : Firm w X) (ha : ∀ k, m.on k → ¬ X k) : IsLog w' B m L := by
  have t : Touch X w { w' with os := w.os, tape := w.tape, output := w.output } := ⟨rfl, rfl, rfl, hz, hk⟩
  exact (h.touch t hX ha).span (Nat.le_refl _) fun _ _ => rfl

theorem IsFrom.span {W W' : World} {B b c : Nat} {m : LogM} {L : LogD} {pos : Int} (h : IsFrom W B b c m L pos) (hz : W.heap.size ≤ W'.heap.size) (hk : ∀ k, k < W.heap.size → W'.heap[k]? = W.heap[k]?) : IsFrom W' B b c m L pos :=
  ⟨(hk _ (ltAt h.at_)).trans h.at_, (hk _ (ltAt h.log)).trans h.log, h.is.span hz hk⟩

/-- From a position on there are just so many records. -/
structure LogD.Has (L : LogD) (pos : Int) (N : Nat) : Prop where
  each : ∀ i : Nat, i < N → pos + (i : Int) < L.next ∧ (L.get (pos + (i : Int))).2 = 0 ∧ (L.get (pos + (i : Int))).1.dep.length ≤ 17592186044416
  stop : L.next ≤ pos + (N : Int)
  low : -9223372036854775808 ≤ pos
  high : pos + (N : Int) ≤ 9223372036854775806

set_option maxRecDepth 100000 in
set_option maxHeartbeats 4000000 in
theorem from1_in (n : Nat) (hn : 1 ≤ n) (X : Nat → Prop) (lp b c hi B : Nat) (m : LogM) (L : LogD) (pos : Int) (N : Nat) (hf : L.fm) (hu : L.down = false → L.up) (hN : L.Has pos N) (J Jx : List Pl → World → Prop)
    (hY : ∀ pre x A W, J pre A → GivesPl x A W → pre.length < N → YieldAt Fence.wide (n - 1) Tryz.prog lp (encPl x) W fun e W' =>
      (e = .returned (.bool true) ∧ J (pre ++ [x]) W' ∧ KeepsX X hi W W') ∨ (e = .returned (.bool false) ∧ Jx (pre ++ [x]) W'))
    (W : World) (hhi : hi ≤ W.heap.size) (hbl : ∀ W', KeepsX X hi W W' → IsFrom W' B b c m L pos) (h0 : J [] W) :
    CallsIn Fence.wide n Tryz.prog 189 #[.func (.yield lp) #[] #[], .pointer (some ⟨b, 0, none⟩), .pointer (some ⟨c, 0, none⟩)] W fun e W' => (∃ v, e = .returned v) ∧
      ((∃ ys, ys.map (fun p => (p.i, p.r)) = L.recs pos N ∧ J ys W') ∨ (∃ pre, pre.map (fun p => (p.i, p.r)) <+: L.recs pos N ∧ Jx pre W')) := by
  refine callsIn_of_wp Tryz.func189 rfl trivial ?_ rfl
  simp only [Tryz.ntmps189, List.size_toArray, List.length_cons, List.length_nil, Nat.reduceAdd, Nat.reduceSub, Array.replicate_succ, Array.replicate_zero, List.push_toArray, List.append_toArray, List.nil_append, List.cons_append]
  have hA := hbl W (keepsX_refl _ _ _)
  have HY := hide hY
  have Hbl := hide hbl
  have HN := hide hN
  have Hf := hide hf
  have Hu := hide hu
  have hnx := hf.next1
  have cb := cellsAt hA.at_ 0
  simp only [List.getElem?_toArray, List.getElem?_cons_zero] at cb
  have hl := hN.low
  have hh := hN.high
  clear hY hbl hA hN hf hu
  refine wpIn_scope_straight ?_
  gi_wp2
  refine wpIn_label ?_
  gi_wp2
  clear cb
  gi_loopw [4] (fun i wr => ∃ (k : Nat) (pre : List Pl), k ≤ N ∧ i = .int .i64 (pos + (k : Int)) ∧ pre.map (fun p => (p.i, p.r)) = L.recs pos k ∧ J pre wr ∧ KeepsX X hi W wr) (fun i _ => (pos + (N : Int) - intOf i).toNat)
  case atStart => exact ⟨0, [], Nat.zero_le _, by simp, rfl, h0, keepsX_refl _ _ _⟩
  case round =>
    obtain ⟨k, pre, hk, rfl, hpre, hJs, hks⟩ := hrel
    have hsz := Nat.le_trans hhi hks.1
    have hfr := Hbl.out wr hks
    have cl := cellsAt hfr.log 0
    simp only [List.getElem?_toArray, List.getElem?_cons_zero] at cl
    obtain ⟨vs, vg, -, -, -, -, -, -, -, -, c14, -, -⟩ := hfr.is.cells
    have hplen : pre.length = k := by have := congrArg List.length hpre; simpa [recs_length] using this
    have Hpre := hide hpre
    have Hpl := hide hplen
    have Hfr := hide hfr
    clear hfr hpre hplen
    by_cases hlt : pos + (k : Int) < L.next
    · have hkN : k < N := by
        have := HN.out.stop
        omega
      have C := hide (logGet_calls B m L (pos + (k : Int)) wr Hfr.out.is Hf.out Hu.out (by omega))
      gi_wp2
      refine ⟨trivial, ?_⟩
      refine ((callsIn_wide (n := _)).2 C.out).mono ?_
      rintro e w2 ⟨v, rfl, ⟨vd, rfl, hown⟩, hb2⟩
      obtain ⟨a', cap', rfl⟩ := ownsRow_slice hown
      have Hown := hide hown
      have Hb2 := hide hb2
      obtain ⟨-, he0, hdep⟩ := HN.out.each k hkN
      obtain ⟨r, hr⟩ : ∃ r, (L.get (pos + (k : Int))).1 = r := ⟨_, rfl⟩
      have hrs := recs_succ L pos k
      rw [hr] at Hown hdep hrs ⊢
      rw [he0]
      have Hrs := hide hrs
      have Hdep := hide hdep
      have hB3 := Hb2.out.alloc Hb2.out.size (.cells #[.int .i64 r.site, .int .i64 r.seq, .slice a' r.dep.length cap', .string r.key, .string r.val] 36)
      obtain ⟨fn, tmps, assign, body, hy, hR⟩ := HY.out pre ⟨pos + (k : Int), r, .slice a' r.dep.length cap'⟩ wr _ hJs ⟨hB3, World.ownsRow.alloc Hown.out _, Hdep.out⟩ (by have := Hpl.out; omega)
      dsimp only [encPl] at hy
      have HB3 := hide hB3
      clear hown hb2 C c14 cl hr hrs he0 hdep hB3
      gi_wp2
      refine hR.mono ?_
      rintro e W4 hW4
      obtain ⟨b, rfl, hb4⟩ := yield_bool hW4
      rcases hb4 with ⟨rfl, hJ4, hk4⟩ | ⟨rfl, hJx4⟩
      · gi_wp2
        exact ⟨⟨k + 1, _, by omega, by go_num, by rw [List.map_append, Hpre.out, Hrs.out]; rfl, hJ4, keepsX_t hks (keepsX_t (KeepsX.of_below HB3.out hsz) hk4)⟩, by simp [intOf]; omega⟩
      · gi_wp2
        try rw [Exit.noGoto_normal]
        go_end0
        refine ⟨⟨_, rfl⟩, .inr ⟨_, ?_, hJx4⟩⟩
        rw [List.map_append, Hpre.out]
        have := recs_take L pos N (k + 1) hkN
        rw [Hrs.out] at this
        exact this
    · have hkN : k = N := by
        have := HN.out.each k
        omega
      subst hkN
      gi_wp2
      go_end0
      exact ⟨⟨_, rfl⟩, .inl ⟨pre, Hpre.out, hJs⟩⟩

/-- What from answers: a sequence over the records. -/
theorem from_stops (n : Nat) (hn : 1 ≤ n) (X : Nat → Prop) (b c B : Nat) (m : LogM) (L : LogD) (pos : Int) (N : Nat) (hf : L.fm) (hu : L.down = false → L.up) (hN : L.Has pos N) (w0 w : World) (hA : IsFrom w0 B b c m L pos) (hw : Below w0.heap.size w0 w)
    (hX : Firm w0 X) (ha : ∀ k, m.on k → ¬ X k) (hb : ¬ X b) (hc : ¬ X c) :
    SeqR n Tryz.prog 189 #[.pointer (some ⟨b, 0, none⟩), .pointer (some ⟨c, 0, none⟩)] encPl (KeepsX X w0.heap.size) GivesPl (fun ys => ys.map (fun p => (p.i, p.r)) = L.recs pos N)
      (fun pre => pre.map (fun p => (p.i, p.r)) <+: L.recs pos N) N w := fun lp J Jx W hW hY h0 =>
  have hW0 : Below w0.heap.size w0 W := hw.trans (hW.mono hw.size)
  from1_in n hn X lp b c w0.heap.size B m L pos N hf hu hN J Jx hY W hW0.size
    (fun W' hk => by
      have hs : ∀ k, k < w0.heap.size → ¬ X k → W'.heap[k]? = w0.heap[k]? := fun k h1 h2 => (hk.2 k h1 h2).trans (hW0.block k h1)
      exact ⟨(hs b (ltAt hA.at_) hb).trans hA.at_, (hs c (ltAt hA.log) hc).trans hA.log, hA.is.touchH (Nat.le_trans hW0.size hk.1) hs hX ha⟩) h0

theorem from_calls (p : Nat) (pos : Int) (w : World) : Calls Tryz.prog 139 #[.pointer (some ⟨p, 0, none⟩), .int .i64 pos] w fun e w' =>
    e = .returned (.func (.func 189) #[] #[.pointer (some ⟨w.heap.size + 1, 0, none⟩), .pointer (some ⟨w.heap.size, 0, none⟩)]) ∧ w'.heap[w.heap.size + 1]? = some (.cells #[.int .i64 pos] 3 (0, 0)) ∧ w'.heap[w.heap.size]? = some (.cells #[.pointer (some ⟨p, 0, none⟩)] 26 (0, 0)) ∧ Below w.heap.size w w' ∧ w'.heap.size = w.heap.size + 2 := by
  have hmf : ∀ (fn : Fn) (first cap : Array Value) (w : World), (Instr.makeFunc fn first cap).run Tryz.prog w = .ok (.func fn first cap) w := fun _ _ _ _ => rfl
  go_enter Tryz.func139, Tryz.ntmps139
  go_wp2_with fail
  go_ret
  refine ⟨rfl, ?_, (Below.heap_alloc _ _ _ (by simp)).trans (World.alloc_heap_new w _), ((Below.refl _ w).alloc (Nat.le_refl _) _).alloc (by simp) _, by simp⟩
  have := World.alloc_heap_new (w.alloc (.cells #[.pointer (some ⟨p, 0, none⟩)] 26)) (.cells #[.int .i64 pos] 3)
  rwa [World.size_alloc] at this

end Go.Proofs.YtjbjjfndkpcciaaGreatDoor

/- vec's With, whose answer is a row of its own. Own work; no statement. -/
set_option linter.unusedSimpArgs false
set_option linter.unusedVariables false
namespace Go.Proofs.YtjbjjfndkpcciaaGreatDoor
open Go.RowKit

set_option maxHeartbeats 400000 in
/-- With answers a row of its own. -/
theorem withO_calls (v : Value) (l : List Int) (i n : Int) (w : World) (hv : IsNums .i64 w v l) (hl : l.length ≤ 1099511627000) :
    Calls Tryz.prog 140 #[v, .int .i64 i, .int .i64 n] w fun e w' => ∃ v', e = .returned v' ∧ w'.ownsRow w.heap.size 3 1 v' (withL l i n).length ((withL l i n).map (Value.int .i64)) ∧ Below w.heap.size w w' := by
  have Hv := hide hv
  obtain ⟨a1, cap, rfl, -, -⟩ := hv
  by_cases h : i < 0 ∨ 63 < i
  · have e : withL l i n = stretchL l l.length := by rw [withL, if_pos h, stretchL_self]
    have E := hide e
    clear e
    rcases h with h | h
    · go_enter Tryz.func140, Tryz.ntmps140
      go_wp2_with (go_at_call 190; refine (stretched_calls _ l l.length _ Hv.out (by omega) (Nat.le_refl _)).mono ?_; rintro e w' ⟨rfl, hown, hB⟩)
      go_ret
      rw [E.out, stretchL_length _ _ (Nat.le_refl _)]
      exact ⟨_, rfl, hown, hB⟩
    · have h0 : ¬ i < 0 := by omega
      go_enter Tryz.func140, Tryz.ntmps140
      go_wp2_with (go_at_call 190; refine (stretched_calls _ l l.length _ Hv.out (by omega) (Nat.le_refl _)).mono ?_; rintro e w' ⟨rfl, hown, hB⟩)
      go_ret
      rw [E.out, stretchL_length _ _ (Nat.le_refl _)]
      exact ⟨_, rfl, hown, hB⟩
  · have e : withL l i n = (stretchL l (max l.length (i.toNat + 1))).set i.toNat n := by rw [withL, if_neg h]
    obtain ⟨k, rfl⟩ := Int.eq_ofNat_of_zero_le (show 0 ≤ i by omega)
    rw [Int.toNat_natCast] at e
    have E := hide e
    clear e
    have h0 : ¬ (k : Int) < 0 := by omega
    have h1 : ¬ 63 < (k : Int) := by omega
    obtain ⟨m, hm⟩ : ∃ m, max l.length (k + 1) = m := ⟨_, rfl⟩
    have hm1 : m ≤ 1099511627776 := by omega
    have hm2 : l.length ≤ m := by omega
    have hm3 : k < m := by omega
    have Hm := hide hm
    clear hm h
    by_cases hlt : (l.length : Int) < (k : Int) + 1
    case' pos => have HI : Hid ((k : Int) + 1 = (m : Int)) := hide (by have := Hm.out; omega)
    case' neg => have HI : Hid ((l.length : Int) = (m : Int)) := hide (by have := Hm.out; omega)
    all_goals
      go_enter Tryz.func140, Tryz.ntmps140
      go_wp2_with (go_at_call 190; rw [HI.out]; refine (stretched_calls _ l m _ Hv.out (by omega) hm2).mono ?_; rintro e w' ⟨rfl, hown, hB⟩; have hc := hown.cellAt k (by omega); have hf := hown.frozenAt k; obtain ⟨hown2, hg2⟩ := hown.stored k (.int .i64 n); rw [List.getElem?_map, List.getElem?_eq_getElem (by rw [stretchL_length _ _ hm2]; exact hm3), Option.map_some] at hc; generalize (stretchL l m)[k]'(by rw [stretchL_length _ _ hm2]; exact hm3) = old at hc; have HO := hide hown2; clear hown hown2 hg2)
      go_ret
      refine ⟨_, rfl, ?_, hB.setCell (p := ⟨w.heap.size, k, none⟩) (Nat.le_refl _) _⟩
      have hlen : (withL l (k : Int) n).length = m := by rw [E.out, Hm.out, List.length_set, stretchL_length _ _ hm2]
      have := HO.out
      rw [← List.map_set] at this
      rw [hlen, E.out, Hm.out]
      exact this


end Go.Proofs.YtjbjjfndkpcciaaGreatDoor

/- A log's vector. Own work; no statement. -/
set_option linter.unusedSimpArgs false
set_option linter.unusedVariables false
namespace Go.Proofs.YtjbjjfndkpcciaaGreatDoor
open Go.RowKit Go.Shelf Go.Sort

attribute [local go_sem] Oper.semAt_some

/-- A vector with records taken in. -/
def takeIn (v : List Int) (l : List (Int × RecD)) : List Int := l.foldl (fun v p => withL v p.2.site p.2.seq) v
theorem takeIn_snoc (v : List Int) (l : List (Int × RecD)) (p : Int × RecD) : takeIn v (l ++ [p]) = withL (takeIn v l) p.2.site p.2.seq := by simp [takeIn]
theorem withL_length (l : List Int) (i n : Int) (h : l.length ≤ 64) : (withL l i n).length ≤ 64 := by
  unfold withL
  split
  · exact h
  · rw [List.length_set]
    unfold stretchL
    simp
    omega
theorem takeIn_length (v : List Int) (h : v.length ≤ 64) : ∀ l : List (Int × RecD), (takeIn v l).length ≤ 64 := by
  intro l
  unfold takeIn
  induction l generalizing v with
  | nil => exact h
  | cons x r ih => exact ih _ (withL_length _ _ _ h)
/-- The vector of what is gone and of the records below a position. -/
def LogD.vecTo (L : LogD) (to : Int) : List Int := takeIn L.gone (L.recs L.trim (to - L.trim).toNat)

theorem recs_get (L : LogD) (pos : Int) (N k : Nat) (h : k < N) : (L.recs pos N)[k]? = some (pos + (k : Int), (L.get (pos + (k : Int))).1) := by simp [LogD.recs, h]
/-- All were below. -/
theorem vec_done {L : LogD} {fr to : Int} {N : Nat} {ys : List Pl} (hN : L.Has fr N) (h1 : fr ≤ to) (h2 : to ≤ L.next) (hys : ys.map (fun p => (p.i, p.r)) = L.recs fr N) (h : ∀ x ∈ ys, x.i < to) : ys.map (fun p => (p.i, p.r)) = L.recs fr (to - fr).toNat := by
  have hst := hN.stop
  have hle : (N : Int) ≤ to - fr := by
    rcases Nat.eq_zero_or_pos N with e | e
    · omega
    · have hg := recs_get L fr N (N - 1) (by omega)
      rw [← hys, List.getElem?_map] at hg
      obtain ⟨x, hx, e2⟩ := Option.map_eq_some_iff.1 hg
      have := h x (List.mem_of_getElem? hx)
      simp only [Prod.mk.injEq] at e2
      omega
  rw [hys, show (to - fr).toNat = N by omega]
/-- The next one was not. -/
theorem vec_stop {L : LogD} {fr to : Int} {N : Nat} {pre : List Pl} {x : Pl} (h1 : fr ≤ to) (hp : (pre ++ [x]).map (fun p => (p.i, p.r)) <+: L.recs fr N) (hx : to ≤ x.i) (h : ∀ x ∈ pre, x.i < to) : pre.map (fun p => (p.i, p.r)) = L.recs fr (to - fr).toNat := by
  have hlen := hp.length_le
  rw [List.length_map, recs_length, List.length_append, List.length_singleton] at hlen
  have hat : ∀ k (hk : k < (pre ++ [x]).length), ((pre ++ [x])[k]).i = fr + (k : Int) := fun k hk => by
    have e := List.IsPrefix.getElem hp (i := k) (by simpa using hk)
    rw [List.getElem_map] at e
    have hkN : k < N := by simp at hk; omega
    have hg := recs_get L fr N k hkN
    rw [List.getElem?_eq_getElem (by rw [recs_length]; exact hkN), ← e] at hg
    simp only [Option.some.injEq, Prod.mk.injEq] at hg
    exact hg.1
  have hxe : x.i = fr + (pre.length : Int) := by
    have := hat pre.length (by simp)
    rw [List.getElem_append_right (Nat.le_refl _)] at this
    simpa using this
  have hle : (pre.length : Int) ≤ to - fr := by
    rcases Nat.eq_zero_or_pos pre.length with e | e
    · omega
    · have h3 := hat (pre.length - 1) (by simp; omega)
      rw [List.getElem_append_left (by omega)] at h3
      have := h _ (List.getElem_mem (by omega : pre.length - 1 < pre.length))
      omega
  rw [show (to - fr).toNat = pre.length by omega]
  have hp2 : pre.map (fun p => (p.i, p.r)) <+: L.recs fr N := by
    rw [List.map_append] at hp
    exact (List.prefix_append _ _).trans hp
  have hp3 := recs_take L fr N pre.length (by omega)
  exact List.IsPrefix.eq_of_length (List.prefix_of_prefix_length_le hp2 hp3 (by simp [recs_length])) (by simp [recs_length])

set_option maxRecDepth 100000 in
set_option maxHeartbeats 4000000 in
theorem vector_calls (B : Nat) (m : LogM) (L : LogD) (to : Int) (N : Nat) (w : World) (hd : IsLog w B m L) (hf : L.fm) (hu : L.down = false → L.up) (hN : L.Has L.trim N) (h1 : L.trim ≤ to) (h2 : to ≤ L.next) (h3 : to ≤ 9223372036854775807) :
    Calls Tryz.prog 80 #[.pointer (some ⟨m.p, 0, none⟩), .int .i64 to] w fun e w' => ∃ v, e = .returned v ∧ w'.ownsRow w.heap.size 3 1 v (L.vecTo to).length ((L.vecTo to).map (Value.int .i64)) ∧ Below w.heap.size w w' := by
  obtain ⟨vs, vg, -, r2, -, -, -, c11, c12, -, -, -, -⟩ := hd.cells
  have hg8 := hf.gone8
  obtain ⟨ga, gc, rfl⟩ := ownsRow_slice r2
  have C1 := hide (fun W (h : Below w.heap.size w W) => cloneVec_calls _ L.gone W ((IsNums.of_row r2).below h) (by omega))
  have Hd := hide hd
  have hlt := hd.lt
  clear hd r2
  refine (callsIn_wide (n := 5)).1 ?_
  refine callsIn_of_wp_marks Tryz.func80 rfl trivial ?_ rfl
  simp only [Tryz.ntmps80, List.size_toArray, List.length_cons, List.length_nil, Nat.reduceAdd, Nat.reduceSub, Array.replicate_succ, Array.replicate_zero, List.push_toArray, List.append_toArray, List.nil_append, List.cons_append]
  refine wpIn_wide.2 ?_
  go_wp2_with fail
  go_step3
  go_wp2_with fail
  have b0 := box_below w (.cells #[.int .i64 to] 3)
  have x0 := World.alloc_heap_new w (.cells #[.int .i64 to] 3)
  obtain ⟨w0, hw0⟩ : ∃ w0, w.alloc (.cells #[.int .i64 to] 3) = w0 := ⟨_, rfl⟩
  have s0 : w0.heap.size = w.heap.size + 1 := by rw [← hw0]; simp
  rw [hw0] at b0 x0 ⊢
  clear hw0
  refine (C1.out w0 b0).mono ?_
  rintro e w1 ⟨vv, rfl, hown1, hb1⟩
  have x1 := keepB x0 hb1
  have b1 := b0.trans (hb1.mono b0.size)
  obtain ⟨_, _, -, -, -, -, -, d11, -, -, -, -, -⟩ := (Hd.out.keep b1).cells
  have hlt1 : m.p < w1.heap.size := by have := b1.size; omega
  have hs1 := hb1.size
  obtain ⟨va, vcap, rfl⟩ := ownsRow_slice hown1
  clear C1 c11 c12 x0
  go_wp2_with fail
  go_step3
  go_wp2_with fail
  have xv := World.alloc_heap_new w1 (.cells #[.slice va L.gone.length vcap] 34)
  have bB := box_below w1 (.cells #[.slice va L.gone.length vcap] 34)
  obtain ⟨w2, hw2⟩ : ∃ w2, w1.alloc (.cells #[.slice va L.gone.length vcap] 34) = w2 := ⟨_, rfl⟩
  have s2 : w2.heap.size = w1.heap.size + 1 := by rw [← hw2]; simp
  rw [hw2] at xv bB ⊢
  clear hw2
  have b2 := b1.trans (bB.mono b1.size)
  refine (from_calls m.p L.trim w2).mono ?_
  rintro e w3 ⟨rfl, y1, y0, b3', s3⟩
  have b3 := b2.trans (b3'.mono b2.size)
  have x3 := keepB (keepB x1 bB) b3'
  have xv3 := keepB xv b3'
  have hrow3 := own_below (own_below hown1 bB) b3'
  have I3 := Hd.out.keep b3
  clear x1 xv hown1 b3' bB d11
  go_wp2_with fail
  have hon : ∀ k, m.on k → k < w.heap.size := fun k hk => (Hd.out.on hk).2
  have hA : IsFrom w3 B (w1.heap.size + 1 + 1) (w1.heap.size + 1) m L L.trim := ⟨by rw [← s2]; exact y1, by rw [← s2]; exact y0, I3⟩
  have hw01 : w.heap.size < w1.heap.size := by omega
  have hs31 : w3.heap.size = w1.heap.size + 3 := by omega
  refine (wpIn_wide (n := 5)).1 ?_
  refine range_lawR (by decide) (gf := 189) (lb := #[.pointer (some ⟨w1.heap.size + 1 + 1, 0, none⟩), .pointer (some ⟨w1.heap.size + 1, 0, none⟩)]) rfl (enters_of Tryz.func189 (by kernel_rfl) rfl)
    (from_stops 4 (by decide) (fun k => k = w1.heap.size) _ _ B m L L.trim N hf hu hN w3 w3 hA (Below.refl _ _) (firm_one xv3 ⟨by decide, by decide, by decide⟩) (fun k hk e => by have := hon k hk; omega) (by omega) (by omega)) keepsX_t (keepsX_b (Nat.le_refl _)) ?hE (fun _ => rfl)
    (fun pre W => (∃ vv, W.heap[w1.heap.size]? = some (.cells #[vv] 34 (0, 0)) ∧ W.heap[w.heap.size]? = some (.cells #[.int .i64 to] 3 (0, 0)) ∧ W.ownsRow w.heap.size 3 1 vv (takeIn L.gone (pre.map fun p => (p.i, p.r))).length ((takeIn L.gone (pre.map fun p => (p.i, p.r))).map (Value.int .i64)) ∧ (∀ x ∈ pre, x.i < to) ∧ w1.heap.size + 3 ≤ W.heap.size) ∧ Below w.heap.size w W)
    (fun c pre W => (c = .exit 0 ∧ ∃ pre0 x, pre = pre0 ++ [x] ∧ to ≤ x.i ∧ ∃ vv, W.heap[w1.heap.size]? = some (.cells #[vv] 34 (0, 0)) ∧ W.ownsRow w.heap.size 3 1 vv (takeIn L.gone (pre0.map fun p => (p.i, p.r))).length ((takeIn L.gone (pre0.map fun p => (p.i, p.r))).map (Value.int .i64)) ∧ ∀ x ∈ pre0, x.i < to) ∧ Below w.heap.size w W)
    (OwnFrom.and (Own.from (fun s X Y row hs hg hr => by
      obtain ⟨vv, a1, a2, a3, a4, a5⟩ := hs
      exact ⟨vv, (own_keeps hg hr a1).trans a1, (own_keeps hg hr a2).trans a2, ownsRow_own' hg hr a3, a4, Nat.le_trans a5 hg.size⟩) _) (ownFrom_below (Nat.le_refl _) (by omega)))
    (fun c => OwnFrom.and (Own.from (fun s X Y row hs hg hr => by
      obtain ⟨h0, pre0, x, h1, h2, vv, a1, a3, a4⟩ := hs
      exact ⟨h0, pre0, x, h1, h2, vv, (own_keeps hg hr a1).trans a1, ownsRow_own' hg hr a3, a4⟩) _) (ownFrom_below (Nat.le_refl _) (by omega)))
    ⟨⟨_, xv3, x3, ownsRow_low hrow3 (by omega), (fun x hx => by cases hx), by omega⟩, b3⟩
    (fun x A a' W => ∃ Bx, Below A.heap.size A W ∧ A.heap.size ≤ Bx ∧ W.heap[Bx]? = some (.cells #[.int .i64 x.r.site, .int .i64 x.r.seq, x.vd, .string x.r.key, .string x.r.val] 36 (0, 0)) ∧ a' = { tmps := #[.pointer (some ⟨m.p, 0, none⟩), .int .i64 to, undef, .pointer (some ⟨w.heap.size, 0, none⟩), .slice none 0 0, .pointer (some ⟨w1.heap.size, 0, none⟩), .int .i64 x.i, .pointer (some ⟨Bx, 0, none⟩), .pointer (some ⟨m.p, 0, none⟩), .pointer (some ⟨m.p, 0, none⟩), .pointer (some ⟨m.p, 12, none⟩), .slice ga L.gone.length gc, .slice va L.gone.length vcap, .pointer (some ⟨m.p, 0, none⟩), .pointer (some ⟨m.p, 0, none⟩), .pointer (some ⟨m.p, 0, none⟩), .pointer (some ⟨m.p, 11, none⟩), .int .i64 L.trim, .func (.func 189) #[] #[.pointer (some ⟨w1.heap.size + 1 + 1, 0, none⟩), .pointer (some ⟨w1.heap.size + 1, 0, none⟩)], .int .i64 x.i, .agg #[.int .i64 x.r.site, .int .i64 x.r.seq, x.vd, .string x.r.key, .string x.r.val], undef, undef, undef, undef, undef, undef, undef, undef, undef, undef], defers := [] })
    ?hAp ?assign ?body ?done ?stop
  case hE => exact fun x A W h => keepsFrom_below h.1
  case hAp =>
    rintro x A a' W l o o' ⟨Bx, h1, h6, h4, h5⟩ _ hAl hWl ho
    refine ⟨Bx, below_put h1, by simpa [World.putObj] using h6, ?_, h5⟩
    have hne : l ≠ Bx := by
      intro e
      rw [e, h4] at hWl
      cases hWl
      cases ho
    unfold World.putObj
    simp only [Array.getElem?_setIfInBounds]
    rw [if_neg hne]
    exact h4
  case assign =>
    clear x3 xv3 hrow3 y0 y1 hA I3
    rintro l pre ⟨xi, ⟨site, seq, dep, key, val⟩, vd⟩ A W K hI hE hlt hK
    have hE2 := hE.2.1
    have hE1 := hE.1
    dsimp only [encPl] at *
    obtain ⟨va', vc', rfl⟩ := ownsRow_slice hE2
    clear hE
    replace hK := hide hK
    obtain ⟨_, _, _, _, _, hz1⟩ := hI.1
    have hz2' := hE1.size
    have HE1 := hide hE1
    clear hE1 hI hE2
    gi_wp2
    exact hK.out _ _ ⟨W.heap.size, HE1.out.alloc HE1.out.size _, HE1.out.size, World.alloc_heap_new W _, rfl⟩ (keepsFrom_below (box_below W _)) (KeepsX.of_below (box_below W _) (by omega))
  case body =>
    clear x3 xv3 hrow3 y0 y1 hA I3
    rintro lp pre x A a' W ⟨⟨vv, a1, a2, a3, a4, a5⟩, hBA⟩ ⟨Bx, hAW, hBx, hbx, rfl⟩ hlt
    have z1 := keepB a1 hAW
    have z2 := keepB a2 hAW
    have z3 := own_below a3 hAW
    have hB := hBA.trans (hAW.mono hBA.size)
    obtain ⟨k0, k1, -, -, -, -, -, -, -, -⟩ := cells5 hbx
    have kv := cellsAt z1 0
    have kt := cellsAt z2 0
    have fv := frozenAt z1 0
    simp only [List.getElem?_toArray, List.getElem?_cons_zero] at kv kt
    obtain ⟨vva, vvc, rfl⟩ := ownsRow_slice z3
    have hlen64 := takeIn_length L.gone (by omega) (pre.map fun p => (p.i, p.r))
    have C := hide (withO_calls _ (takeIn L.gone (pre.map fun p => (p.i, p.r))) x.r.site x.r.seq W (IsNums.of_row z3) (by omega))
    have hsnoc := takeIn_snoc L.gone (pre.map fun p => (p.i, p.r)) (x.i, x.r)
    have Z1 := hide z1
    have Z2 := hide z2
    have Z3 := hide z3
    have HB := hide hB
    have hz3 := hAW.size
    by_cases hge : to ≤ x.i
    · clear a1 a2 a3 z1 z2 z3 hB hAW C
      gi_wp2
      exact ⟨keepsFrom_below (Below.refl _ _), ⟨rfl, pre, x, rfl, hge, _, Z1.out, Z3.out, a4⟩, HB.out⟩
    · clear a1 a2 a3 z1 z2 z3 hB hAW
      gi_wp2
      refine ⟨trivial, ?_⟩
      refine (CallsIn.inRound lp ((callsIn_wide (n := _)).2 C.out)).mono ?_
      rintro e w4 ⟨v', rfl, hown4, hb4⟩
      obtain ⟨va4, vc4, rfl⟩ := ownsRow_slice hown4
      have Z4 := keepB Z1.out hb4
      have Z5 := keepB Z2.out hb4
      have f4 := frozenAt Z4 0
      have k4 := cellsAt Z4 0
      simp only [List.getElem?_toArray, List.getElem?_cons_zero] at k4
      have HO := hide hown4
      have Hb4 := hide hb4
      have HZ4 := hide Z4
      have HZ5 := hide Z5
      have hsz4 := hb4.size
      clear hown4 hb4 C k0 k1 kv kt fv Z4 Z5
      gi_wp2
      have hoth : ∀ k, k ≠ w1.heap.size → (w4.setCell ⟨w1.heap.size, 0, none⟩ (.slice va4 (withL (takeIn L.gone (pre.map fun p => (p.i, p.r))) x.r.site x.r.seq).length vc4)).heap[k]? = w4.heap[k]? := fun k hk => Below.heap_setCell _ _ _ _ hk
      refine ⟨⟨by simp [World.setCell]; omega, fun k o h1 ho _ => (hoth k (by omega)).trans (keepB ho Hb4.out)⟩, ⟨by simp [World.setCell]; omega, fun k h1 h2 => (hoth k h2).trans (Hb4.out.block k (by omega))⟩, ⟨_, by simpa using setAt (j := 0) HZ4.out (.slice va4 (withL (takeIn L.gone (pre.map fun p => (p.i, p.r))) x.r.site x.r.seq).length vc4), (hoth _ (by omega)).trans HZ5.out, ?_, ?_, by simp [World.setCell]; omega⟩, (HB.out.trans (Hb4.out.mono HB.out.size)).setCell (p := ⟨w1.heap.size, 0, none⟩) (by simp; omega) _⟩
      · rw [List.map_append, List.map_cons, List.map_nil, hsnoc]
        exact ownsRow_low (ownsRow_of_heap HO.out fun k hk => hoth k (by have := (HO.out.lt k hk).1; omega)) (by have := HB.out.size; omega)
      · intro y hy
        rcases List.mem_append.1 hy with h | h
        · exact a4 y h
        · obtain rfl : y = x := by simpa using h
          omega
  case done =>
    clear x3 xv3 hrow3 y0 y1 hA I3
    rintro D ys W hD hys ⟨⟨vv, a1, a2, a3, a4, a5⟩, hB⟩ hK
    have heq := hide (vec_done hN h1 h2 hys a4)
    clear hys a2 a4
    obtain ⟨va5, vc5, rfl⟩ := ownsRow_slice a3
    have kv := cellsAt a1 0
    simp only [List.getElem?_toArray, List.getElem?_cons_zero] at kv
    have A3 := hide a3
    have HB := hide hB
    clear a1 a3 hB
    go_wp2_with fail
    refine ⟨by simp, .inl ⟨_, _, rfl, run_takeDeferred hK, ?_⟩⟩
    have hg := grownBy_putObj' W D (.deferred none)
    have hr : ∀ r, some D = some r → ∃ o : Obj, W.heap[r]? = some o ∧ o.isCells = false := fun r e => by cases e; exact ⟨_, hK, rfl⟩
    refine ⟨.slice va5 (takeIn L.gone (ys.map fun p => (p.i, p.r))).length vc5, by simp [results, Tryz.f80, go_sem], _, rfl, ?_, HB.out.trans (belowK_b (w := w) (Nat.le_refl _) W D _ _ (by have := HB.out.size; omega) hK rfl rfl)⟩
    unfold LogD.vecTo
    rw [← heq.out]
    exact ownsRow_own' hg hr A3.out
  case stop =>
    clear x3 xv3 hrow3 y0 y1 hA I3
    rintro D c pre W hD hsp ⟨⟨rfl, pre0, x, rfl, hge, vv, a1, a3, a4⟩, hB⟩ hK
    have heq := hide (vec_stop h1 hsp hge a4)
    clear hsp a4 hge
    obtain ⟨va5, vc5, rfl⟩ := ownsRow_slice a3
    have kv := cellsAt a1 0
    simp only [List.getElem?_toArray, List.getElem?_cons_zero] at kv
    have A3 := hide a3
    have HB := hide hB
    clear a1 a3 hB
    refine (wpIn_wide (n := 5)).2 ?_
    go_wp2_with fail
    refine ⟨by simp, .inl ⟨_, _, rfl, run_takeDeferred hK, ?_⟩⟩
    have hg := grownBy_putObj' W D (.deferred none)
    have hr : ∀ r, some D = some r → ∃ o : Obj, W.heap[r]? = some o ∧ o.isCells = false := fun r e => by cases e; exact ⟨_, hK, rfl⟩
    refine ⟨.slice va5 (takeIn L.gone (pre0.map fun p => (p.i, p.r))).length vc5, by simp [results, Tryz.f80, go_sem], _, rfl, ?_, HB.out.trans (belowK_b (w := w) (Nat.le_refl _) W D _ _ (by have := HB.out.size; omega) hK rfl rfl)⟩
    unfold LogD.vecTo
    rw [← heq.out]
    exact ownsRow_own' hg hr A3.out

set_option maxHeartbeats 1000000 in
theorem logVec_calls (B : Nat) (m : LogM) (L : LogD) (N : Nat) (w : World) (hd : IsLog w B m L) (hf : L.fm) (hu : L.down = false → L.up) (hN : L.Has L.trim N) :
    Calls Tryz.prog 35 #[.pointer (some ⟨m.p, 0, none⟩)] w fun e w' => ∃ v, e = .returned v ∧ w'.ownsRow w.heap.size 3 1 v (L.vecTo L.head).length ((L.vecTo L.head).map (Value.int .i64)) ∧ Below w.heap.size w w' := by
  obtain ⟨_, _, -, -, -, -, -, -, -, c13, -, -, -⟩ := hd.cells
  have h1 := hf.next1
  have C := hide (fun W (h : Below w.heap.size w W) => vector_calls B m L L.head N W (hd.keep h) hf hu hN hf.head0 hf.next0 (by have := hf.next0; omega))
  clear hd hf hu hN
  go_enter Tryz.func35, Tryz.ntmps35
  go_wp2_with fail
  refine (C.out w (Below.refl _ w)).mono ?_
  rintro e w2 ⟨v, rfl, h2, h3⟩
  obtain ⟨a, c, rfl⟩ := ownsRow_slice h2
  go_wp2_with fail
  go_ret
  exact ⟨_, rfl, h2, h3⟩

end Go.Proofs.YtjbjjfndkpcciaaGreatDoor
