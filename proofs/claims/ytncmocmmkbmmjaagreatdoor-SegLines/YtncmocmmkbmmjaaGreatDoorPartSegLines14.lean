/- Own work: the parts S20, S21, S22, S23, RS4, RD1 of the proof, laid together. -/
import Derived.Test.YtncmocmmkbmmjaaGreatDoorPartSegLines13
import Derived.LaidEqlPtr
import Derived.Test.YtncmocmmkbmmjaaGreatDoorPartSegLines7
import Derived.Test.YtncmocmmkbmmjaaGreatDoorPartSegLines10
import Derived.Laws.AppendOwnNone
import Derived.Maps.OwnIn
/- The laws' R and fresh; a segment's calls with named ends. Own work; no statement. -/
set_option linter.unusedSimpArgs false
set_option linter.unusedVariables false
namespace Go.Proofs.YtncmocmmkbmmjaaGreatDoor
open Go.RowKit Go.Shelf Go.Sort

/-- The record that the laws put. -/
def lawR (site seq : Int) : RecD := ⟨site, seq, [], ⟨#[107]⟩, ⟨#[]⟩⟩

set_option maxHeartbeats 1000000 in
theorem lawR_calls (site seq : Int) (w : World) : Calls Tryz.prog 21 #[.int .i64 site, .int .i64 seq] w fun e w' => e = .returned (.agg #[.int .i64 site, .int .i64 seq, .slice none 0 0, .string ⟨#[107]⟩, .string ⟨#[]⟩]) ∧ Below w.heap.size w w' := by
  go_enter Tryz.func21, Tryz.ntmps21
  go_wp2
  exact bodyPost_ret (v := .agg #[.int .i64 site, .int .i64 seq, .slice none 0 0, .string ⟨#[107]⟩, .string ⟨#[]⟩]) (by simp [results, Tryz.f21, go_sem]) rfl ⟨rfl, (Below.refl _ w).alloc (Nat.le_refl _) _⟩

theorem lawR_is (site seq : Int) (w : World) : IsRec w (.agg #[.int .i64 site, .int .i64 seq, .slice none 0 0, .string ⟨#[107]⟩, .string ⟨#[]⟩]) (lawR site seq) :=
  (show OwnRec 0 w _ (lawR site seq) from ⟨_, rfl, World.ownsRow_nil _ _ _ _⟩).isRec

/-- What a call leaves of a segment, from the world w0 on. -/
def On (w0 : World) (m : SegM) (S : SegD) (w w' : World) : Prop := ∃ dg sg, IsSeg w' w0.heap.size ⟨m.p, m.dp, dg, sg, m.c⟩ S ∧ Below w0.heap.size w0 w' ∧ Touch m.on w w'

theorem Goes.on {w0 w w' : World} {m : SegM} {S S' : SegD} (h : Goes w0.heap.size m S' w w') (hI : IsSeg w w0.heap.size m S) (hb : Below w0.heap.size w0 w) : On w0 m S' w w' := by
  obtain ⟨m', h1, h2, h3, h4, h5, -⟩ := h
  refine ⟨m'.dg, m'.sg, ?_, hb.trans (hI.below hb.size h5), h5⟩
  rw [← h1, ← h2, ← h3]
  exact h4

theorem segPut_on (w0 w : World) (m : SegM) (S S' : SegD) (k pos E : Int) (v : Value) (r : RecD) (hI : IsSeg w w0.heap.size m S) (hb : Below w0.heap.size w0 w) (hv : IsRec w v r) (hl : r.dep.length ≤ 1099511627776) (hks : r.key.size ≤ 1099511627776) (hvs : r.val.size ≤ 1099511627776) (hp : Pow w0)
    (hE : segPutE S k pos r = E) (hS : segPutS S k pos r = S') :
    Calls Tryz.prog 20 #[.pointer (some ⟨m.p, 0, none⟩), .int .i64 k, .int .i64 pos, v] w fun x w' => x = .returned (.int .i64 E) ∧ On w0 m S' w w' := by
  subst hE
  subst hS
  exact (segPut_calls _ m S k pos v r w hI hb.size hv hl hks hvs (hp.below hb)).mono fun x w' ⟨h1, h2⟩ => ⟨h1, h2.on hI hb⟩
theorem segCut_on (w0 w : World) (m : SegM) (S S' : SegD) (pos E : Int) (hI : IsSeg w w0.heap.size m S) (hb : Below w0.heap.size w0 w) (hp : Pow w0) (hE : segCutE S pos = E) (hS : segCutS S pos = S') :
    Calls Tryz.prog 27 #[.pointer (some ⟨m.p, 0, none⟩), .int .i64 pos] w fun x w' => x = .returned (.int .i64 E) ∧ On w0 m S' w w' := by
  subst hE
  subst hS
  exact (segCut_calls _ m S pos w hI hb.size (hp.below hb)).mono fun x w' ⟨h1, h2⟩ => ⟨h1, h2.on hI hb⟩
theorem segTrim_on (w0 w : World) (m : SegM) (S S' : SegD) (pos : Int) (hI : IsSeg w w0.heap.size m S) (hb : Below w0.heap.size w0 w) (hp : Pow w0) (hS : segTrimS S pos = S') :
    Calls Tryz.prog 28 #[.pointer (some ⟨m.p, 0, none⟩), .int .i64 pos] w fun x w' => x = .returned (.tuple #[]) ∧ On w0 m S' w w' := by
  subst hS
  exact (segTrim_calls _ m S pos w hI hb.size (hp.below hb)).mono fun x w' ⟨h1, h2⟩ => ⟨h1, h2.on hI hb⟩
theorem segSeal_on (w0 w : World) (m : SegM) (S S' : SegD) (k n E : Int) (hI : IsSeg w w0.heap.size m S) (hb : Below w0.heap.size w0 w) (hp : Pow w0) (hE : segSealE S k = E) (hn : (if segSealE S k = 0 then endS (segSealS S k) else 0) = n) (hS : segSealS S k = S') :
    Calls Tryz.prog 24 #[.pointer (some ⟨m.p, 0, none⟩), .int .i64 k] w fun x w' => x = .returned (.tuple #[.int .i64 n, .int .i64 E]) ∧ On w0 m S' w w' := by
  subst hn
  subst hE
  subst hS
  exact (segSeal_calls _ m S k w hI hb.size (hp.below hb)).mono fun x w' ⟨h1, h2⟩ => ⟨h1, h2.on hI hb⟩
theorem segSync_on (w0 w : World) (m : SegM) (S : SegD) (hI : IsSeg w w0.heap.size m S) (hb : Below w0.heap.size w0 w) :
    Calls Tryz.prog 31 #[.pointer (some ⟨m.dp, 0, none⟩)] w fun x w' => x = .returned (.tuple #[]) ∧ On w0 m { S with D := ⟨S.D.room, S.D.lines, S.D.lines.length⟩ } w w' :=
  (diskSync_calls _ _ _ _ w hI.disk).mono fun x w' ⟨h1, h2, h3⟩ => by
    obtain ⟨I3, T3, -⟩ := hI.disk_goes h2 h3 hI.ok.few (fun k hk => .inl hk)
    exact ⟨h1, _, _, I3, hb.trans (hI.below hb.size T3), T3⟩
theorem segCrash_on (w0 w : World) (m : SegM) (S : SegD) (keep : Int) (hI : IsSeg w w0.heap.size m S) (hb : Below w0.heap.size w0 w) (hk0 : -9223372036854775808 ≤ keep) (hk1 : keep ≤ 9223372036854775807) :
    Calls Tryz.prog 26 #[.pointer (some ⟨m.dp, 0, none⟩), .int .i64 keep] w fun x w' => x = .returned (.tuple #[]) ∧ IsDisk w' w0.heap.size m.dp m.dg (crashD S.D keep) ∧ Below w0.heap.size w0 w' ∧ Touch (onDisk m.dp m.dg) w w' :=
  (diskCrash_calls _ _ _ _ keep w hI.disk hk0 hk1).mono fun x w' ⟨h1, h2, h3⟩ => ⟨h1, h2, hb.trans (hI.disk.below hb.size h3), h3⟩
theorem segOpen_on (w0 w : World) (p : Nat) (g : Option Nat) (D : DiskD) (S : SegD) (hd : IsDisk w w0.heap.size p g D) (hb : Below w0.heap.size w0 w) (hS : openS D = S) :
    Calls Tryz.prog 12 #[.pointer (some ⟨p, 0, none⟩)] w fun x w' => ∃ q dg sg c, x = .returned (.tuple #[.pointer (some ⟨q, 0, none⟩), .int .i64 0]) ∧ IsSeg w' w0.heap.size ⟨q, p, dg, sg, c⟩ S ∧ Below w0.heap.size w0 w' ∧ Touch (onDisk p g) w w' := by
  subst hS
  refine (segOpen_calls _ p g D w hd hb.size).mono ?_
  rintro x w' ⟨m, rfl, rfl, h1, h2, -⟩
  exact ⟨m.p, m.dg, m.sg, m.c, rfl, h1, hb.trans (hd.below hb.size h2), h2⟩

/-- A block of another type is none of a segment's, or a disk's. -/
theorem IsSeg.not_on {w : World} {B : Nat} {m : SegM} {S : SegD} (h : IsSeg w B m S) {k : Nat} {c : Array Value} {t : TypeId} {f : Nat × Nat} (hk : w.heap[k]? = some (.cells c t f)) (h1 : t ≠ 82) (h2 : t ≠ 106) (h3 : t ≠ 76) (h4 : t ≠ 9) : ¬ m.on k := by
  obtain ⟨v, qs, hv, hl, hp, hr, -⟩ := h.val
  rintro (e | e | e)
  · rw [e, hp] at hk
    simp only [Option.some.injEq, Obj.cells.injEq] at hk
    exact h1 hk.2.1.symm
  · exact row_not hr hk h2 (by rw [hv, e])
  · exact h.disk.off hk h3 h4 k e rfl
theorem IsDisk.not_on {w : World} {B p : Nat} {g : Option Nat} {D : DiskD} (h : IsDisk w B p g D) {k : Nat} {c : Array Value} {t : TypeId} {f : Nat × Nat} (hk : w.heap[k]? = some (.cells c t f)) (h3 : t ≠ 76) (h4 : t ≠ 9) : ¬ onDisk p g k := fun e => h.off hk h3 h4 k e rfl

/-- Get, what it answers named; of the record its Seq alone. -/
theorem segGet_on (w0 w : World) (m : SegM) (S : SegD) (pos E Q : Int) (hI : IsSeg w w0.heap.size m S) (hb : Below w0.heap.size w0 w) (hE : (getS S pos).2 = E) (hQ : (getS S pos).1.seq = Q) :
    Calls Tryz.prog 29 #[.pointer (some ⟨m.p, 0, none⟩), .int .i64 pos] w fun x w' => ∃ s a l c k z, x = .returned (.tuple #[.agg #[.int .i64 s, .int .i64 Q, .slice a l c, .string k, .string z], .int .i64 E]) ∧ IsSeg w' w0.heap.size m S ∧ Below w0.heap.size w0 w' ∧ Below w.heap.size w w' := by
  subst hE
  subst hQ
  refine (segGet_calls _ m S pos w hI).mono ?_
  rintro x w' ⟨v, rfl, ⟨vd, rfl, hr⟩, hb'⟩
  obtain ⟨a, c, rfl⟩ := ownsRow_slice hr
  exact ⟨_, _, _, _, _, _, rfl, hI.keep hb', hb.trans (hb'.mono hb.size), hb'⟩

theorem segLasts_on (w0 w : World) (m : SegM) (S : SegD) (pos : Int) (b : Bool) (hI : IsSeg w w0.heap.size m S) (hb : Below w0.heap.size w0 w) (hE : lastsS S pos = b) :
    Calls Tryz.prog 30 #[.pointer (some ⟨m.p, 0, none⟩), .int .i64 pos] w fun x w' => x = .returned (.bool b) ∧ IsSeg w' w0.heap.size m S ∧ Below w0.heap.size w0 w' ∧ Below w.heap.size w w' := by
  subst hE
  refine (lasts_calls _ m S pos w hI).mono ?_
  rintro x w' ⟨rfl, n, rfl⟩
  exact ⟨rfl, hI.drews n, hb.trans ((drewsB w n).mono hb.size), drewsB w n⟩

/-- Rows of All of a segment. -/
theorem segRows_on (b c most : Nat) (v : Value) (qs : List Nat) (l : List SlotD) (w : World) (hA : IsSlots w b c v qs l) (hd : ∀ p ∈ l, p.r.dep.length ≤ 17592186044416) (hl : l.length ≤ most) (hm : most ≤ 1048576) :
    Calls Tryz.prog 22 #[.func (.func 56) #[] #[.pointer (some ⟨b, 0, none⟩)], .int .i64 (most : Int)] w fun e w' => ∃ va vb, e = .returned (.tuple #[va, vb, .bool true]) ∧ IsNums .i64 w' va (l.map (·.pos)) ∧ IsRecs w' vb (l.map (·.r)) ∧ Below w.heap.size w w' := by
  refine (rowsG_calls 56 _ w.heap.size (l.map fun p => (p.pos, p.r)) most w (Nat.le_refl _) (enters_of Tryz.func56 (by kernel_rfl) rfl) (fun w' hw' => by
    rw [List.length_map]
    exact segAll_stops 4 (by decide) b c v qs l (by omega) hd w w' hA hw') (by simpa using hl) hm).mono ?_
  rintro e w' ⟨va, vb, h1, h2, h3, h4⟩
  exact ⟨va, vb, h1, by simpa [List.map_map, Function.comp_def] using h2, by simpa [List.map_map, Function.comp_def] using h3, h4⟩

def freshS : SegD := ⟨⟨100000, [], 0⟩, 0, 0, []⟩

set_option maxHeartbeats 2000000 in
theorem fresh_calls (w : World) : Calls Tryz.prog 19 #[] w fun e w' => ∃ m, e = .returned (.tuple #[.pointer (some ⟨m.dp, 0, none⟩), .pointer (some ⟨m.p, 0, none⟩)]) ∧ IsSeg w' w.heap.size m freshS ∧ Below w.heap.size w w' := by
  go_enter Tryz.func19, Tryz.ntmps19
  go_wp2_with (first | (go_at_call 8; refine (diskNew_calls 100000 _ (by decide) (by decide)).mono ?_; rintro e w1 ⟨rfl, d1, b1⟩))
  refine (segOpen_on w w1 _ _ _ freshS d1 b1 rfl).mono ?_
  rintro e w2 ⟨q, dg, sg, c, rfl, I2, b2, -⟩
  go_wp2_with fail
  go_ret2
  exact ⟨⟨q, w.heap.size, dg, sg, c⟩, rfl, I2, b2⟩


theorem segPut_err {S : SegD} {k pos : Int} {r : RecD} (h : segPutE S k pos r ≠ 0) : segPutS S k pos r = S := by
  unfold segPutE at h
  unfold segPutS
  repeat' split at h
  · rename_i h1; rw [if_pos h1]
  · rename_i h1 h2; rw [if_neg h1, if_pos h2]
  · rename_i h1 h2 h3; rw [if_neg h1, if_neg h2, if_pos h3]
  · rename_i h1 h2 h3 h4; rw [if_neg h1, if_neg h2, if_neg h3, if_pos h4]
  · rename_i h1 h2 h3 h4 h5
    rw [if_neg h1, if_neg h2, if_neg h3, if_neg h4, if_pos h5]
    unfold addS
    rw [if_neg h]
  · rename_i h1 h2 h3 h4 h5; rw [if_neg h1, if_neg h2, if_neg h3, if_neg h4, if_neg h5]

/-! The disk of a thousand bytes that known plays on. -/
def kS0 : SegD := ⟨⟨1000, [], 0⟩, 0, 0, []⟩
def kS1 : SegD := segPutS kS0 1 5 (lawR 0 1)
def kS2 : SegD := { kS1 with D := ⟨kS1.D.room, kS1.D.lines, kS1.D.lines.length⟩ }
def kS3 : SegD := segPutS kS2 1 7 (lawR 0 2)
def kS4 : SegD := openS (crashD kS3.D 3)
def kS5 : SegD := segSealS kS4 1
def kS6 : SegD := segTrimS kS5 6

theorem k1 : segPutE kS0 1 5 (lawR 0 1) = 0 := by decide +kernel
theorem k2 : segPutE kS2 1 7 (lawR 0 2) = 0 := by decide +kernel
theorem k3 : segPutE kS3 1 5 (lawR 1 1) = 5 := by decide +kernel
theorem k3' : segPutS kS3 1 5 (lawR 1 1) = kS3 := segPut_err (by rw [k3]; decide)
theorem k4 : (getS kS3 5).2 = 0 ∧ (getS kS3 5).1.seq = 1 := by decide +kernel
theorem k5 : (getS kS3 6).2 = 9 ∧ (getS kS3 6).1.seq = 0 := by decide +kernel
theorem k6 : lastsS kS3 5 = true ∧ lastsS kS3 7 = false ∧ lastsS kS3 6 = false := by decide +kernel
theorem k7 : (getS kS4 7).2 = 9 ∧ (getS kS4 7).1.seq = 0 := by decide +kernel
theorem k8 : segSealE kS4 1 = 0 ∧ endS kS5 = 6 := by decide +kernel
theorem k9 : segPutE kS5 1 9 (lawR 0 2) = 7 := by decide +kernel
theorem k9' : segPutS kS5 1 9 (lawR 0 2) = kS5 := segPut_err (by rw [k9]; decide)
theorem k10 : (getS kS6 5).2 = 8 ∧ (getS kS6 5).1.seq = 0 := by decide +kernel
theorem k11 : kS6.slots = [] := List.eq_nil_of_length_eq_zero (by decide +kernel)
theorem k12 : kS6.sealed = 1 := by decide +kernel

end Go.Proofs.YtncmocmmkbmmjaaGreatDoor

/- The laws' known over segments. Own work; no statement. -/
set_option linter.unusedSimpArgs false
set_option linter.unusedVariables false
namespace Go.Proofs.YtncmocmmkbmmjaaGreatDoor
open Go.RowKit Go.Shelf Go.Sort

/-- A disk's pointer is itself. -/
theorem diskPtr_same (a : Addr) (w : World) : (binOp .eql 24 (.pointer (some a)) (.pointer (some a))).run Tryz.prog w = .ok (.bool true) w := by
  obtain ⟨j, hj⟩ : ∃ j, Tryz.prog.info? 76 = some j := Option.isSome_iff_exists.1 (by kernel_rfl)
  exact run_eql_ptr_same w a (te := 76) (by kernel_rfl) hj

set_option maxRecDepth 100000 in
set_option maxHeartbeats 8000000 in
theorem segKnown_calls (w : World) (hp : Pow w) : Calls Tryz.prog 7 #[] w fun e w' => e = .returned (.bool true) ∧ Below w.heap.size w w' := by
  go_enter Tryz.func7, Tryz.ntmps7
  go_wp2_with (first | (go_at_call 8; refine (diskNew_calls 1000 _ (by decide) (by decide)).mono ?_; rintro e w1 ⟨rfl, d1, b1⟩))
  refine (segOpen_on w w1 _ _ _ kS0 d1 b1 rfl).mono ?_
  rintro e w2 ⟨q, dg, sg, c, rfl, I2, b2, -⟩
  clear d1 b1
  go_wp2_with fail
  refine (lawR_calls 0 1 _).mono ?_
  rintro e w3 ⟨rfl, b3⟩
  have I3 := I2.keep b3
  have b3' := b2.trans (b3.mono b2.size)
  clear I2 b2 b3
  go_wp2_with fail
  refine (segPut_on w w3 _ kS0 kS1 1 5 0 _ (lawR 0 1) I3 b3' (lawR_is 0 1 w3) (by decide) (by decide) (by decide) hp k1 rfl).mono ?_
  rintro e w4 ⟨rfl, dg4, sg4, I4, b4, -⟩
  clear I3 b3'
  dsimp only at I4
  go_wp2_with fail
  refine (segSync_on w w4 _ kS1 I4 b4).mono ?_
  rintro e w5 ⟨rfl, dg5, sg5, I5, b5, -⟩
  clear I4 b4
  dsimp only at I5
  go_wp2_with fail
  refine (lawR_calls 0 2 _).mono ?_
  rintro e w6 ⟨rfl, b6⟩
  have I6 : IsSeg w6 _ _ kS2 := I5.keep b6
  have b6' := b5.trans (b6.mono b5.size)
  clear I5 b5 b6
  go_wp2_with fail
  refine (segPut_on w w6 _ kS2 kS3 1 7 0 _ (lawR 0 2) I6 b6' (lawR_is 0 2 w6) (by decide) (by decide) (by decide) hp k2 rfl).mono ?_
  rintro e w7 ⟨rfl, dg7, sg7, I7, b7, -⟩
  clear I6 b6'
  dsimp only at I7
  go_wp2_with fail
  refine (lawR_calls 1 1 _).mono ?_
  rintro e w8 ⟨rfl, b8⟩
  have I8 : IsSeg w8 _ _ kS3 := I7.keep b8
  have b8' := b7.trans (b8.mono b7.size)
  clear I7 b7 b8
  go_wp2_with fail
  refine (segPut_on w w8 _ kS3 kS3 1 5 5 _ (lawR 1 1) I8 b8' (lawR_is 1 1 w8) (by decide) (by decide) (by decide) hp k3 k3').mono ?_
  rintro e w9 ⟨rfl, dg9, sg9, I9, b9, -⟩
  clear I8 b8'
  dsimp only at I9
  go_wp2_with fail
  refine (segGet_on w w9 _ kS3 5 0 1 I9 b9 k4.1 k4.2).mono ?_
  rintro e w10 ⟨site, a10, dl, c10, key, val, rfl, I10, b10, -⟩
  clear I9 b9
  go_wp2_with fail
  obtain ⟨bx, hbx⟩ : ∃ bx, w10.heap.size = bx := ⟨_, rfl⟩
  have x11 := World.alloc_heap_new w10 (.cells #[.int .i64 site, .int .i64 1, .slice a10 dl c10, .string key, .string val] 57)
  have b11 := box_below w10 (.cells #[.int .i64 site, .int .i64 1, .slice a10 dl c10, .string key, .string val] 57)
  rw [hbx] at x11 ⊢
  obtain ⟨w11, hw11⟩ : ∃ w11, w10.alloc (.cells #[.int .i64 site, .int .i64 1, .slice a10 dl c10, .string key, .string val] 57) = w11 := ⟨_, rfl⟩
  rw [hw11] at x11 b11 ⊢
  have I11 := I10.keep b11
  have b11' := b10.trans (b11.mono b10.size)
  clear I10 b10 b11 hw11 hbx
  refine (segGet_on w w11 _ kS3 6 9 0 I11 b11' k5.1 k5.2).mono ?_
  rintro e w12 ⟨site2, a12, dl2, c12, key2, val2, rfl, I12, b12, b12'⟩
  have x12 := keepB x11 b12'
  clear I11 b11' x11 b12'
  go_wp2_with fail
  have b13 := box_below w12 (.cells #[.int .i64 site2, .int .i64 0, .slice a12 dl2 c12, .string key2, .string val2] 57)
  obtain ⟨w13, hw13⟩ : ∃ w13, w12.alloc (.cells #[.int .i64 site2, .int .i64 0, .slice a12 dl2 c12, .string key2, .string val2] 57) = w13 := ⟨_, rfl⟩
  rw [hw13] at b13 ⊢
  have I13 := I12.keep b13
  have x13 := keepB x12 b13
  have b13' := b12.trans (b13.mono b12.size)
  clear I12 b12 x12 b13 hw13
  refine (segLasts_on w w13 _ kS3 5 true I13 b13' k6.1).mono ?_
  rintro e w14 ⟨rfl, I14, b14', c14⟩
  have x14 := keepB x13 c14
  clear I13 b13' x13 c14
  go_wp2_with fail
  refine (segLasts_on w w14 _ kS3 7 false I14 b14' k6.2.1).mono ?_
  rintro e w15 ⟨rfl, I15, b15', c15⟩
  have x15 := keepB x14 c15
  clear I14 b14' x14 c15
  go_wp2_with fail
  refine (segLasts_on w w15 _ kS3 6 false I15 b15' k6.2.2).mono ?_
  rintro e w16 ⟨rfl, I16, b16', c16⟩
  have x16 := keepB x15 c16
  clear I15 b15' x15 c16
  go_wp2_with fail
  refine (segCrash_on w w16 _ kS3 3 I16 b16' (by decide) (by decide)).mono ?_
  rintro e w17 ⟨rfl, d17, b17, T17⟩
  have x17 := (T17.block bx (ltAt x16) (I16.disk.not_on x16 (by decide) (by decide))).trans x16
  clear I16 b16' x16 T17
  dsimp only at d17
  go_wp2_with fail
  refine (segOpen_on w w17 _ _ _ kS4 d17 b17 rfl).mono ?_
  rintro e w18 ⟨q2, dg18, sg18, c18, rfl, I18, b18, T18⟩
  have x18 := (T18.block bx (ltAt x17) (d17.not_on x17 (by decide) (by decide))).trans x17
  clear d17 b17 x17 T18
  go_wp2_with fail
  refine (segGet_on w w18 _ kS4 7 9 0 I18 b18 k7.1 k7.2).mono ?_
  rintro e w19 ⟨site3, a19, dl3, c19, key3, val3, rfl, I19, b19, b19'⟩
  have x19 := keepB x18 b19'
  clear I18 b18 x18 b19'
  go_wp2_with fail
  have b20 := box_below w19 (.cells #[.int .i64 site3, .int .i64 0, .slice a19 dl3 c19, .string key3, .string val3] 57)
  obtain ⟨w20, hw20⟩ : ∃ w20, w19.alloc (.cells #[.int .i64 site3, .int .i64 0, .slice a19 dl3 c19, .string key3, .string val3] 57) = w20 := ⟨_, rfl⟩
  rw [hw20] at b20 ⊢
  have I20 := I19.keep b20
  have x20 := keepB x19 b20
  have b20' := b19.trans (b20.mono b19.size)
  clear I19 b19 x19 b20 hw20
  refine (segSeal_on w w20 _ kS4 kS5 1 6 0 I20 b20' hp k8.1 (by rw [if_pos k8.1]; exact k8.2) rfl).mono ?_
  rintro e w21 ⟨rfl, dg21, sg21, I21, b21, T21⟩
  have x21 := (T21.block bx (ltAt x20) (I20.not_on x20 (by decide) (by decide) (by decide) (by decide))).trans x20
  clear I20 b20' x20 T21
  dsimp only at I21
  go_wp2_with fail
  refine (lawR_calls 0 2 _).mono ?_
  rintro e w22 ⟨rfl, b22⟩
  have I22 := I21.keep b22
  have x22 := keepB x21 b22
  have b22' := b21.trans (b22.mono b21.size)
  clear I21 b21 b22 x21
  go_wp2_with fail
  refine (segPut_on w w22 _ kS5 kS5 1 9 7 _ (lawR 0 2) I22 b22' (lawR_is 0 2 w22) (by decide) (by decide) (by decide) hp k9 k9').mono ?_
  rintro e w23 ⟨rfl, dg23, sg23, I23, b23, T23⟩
  have x23 := (T23.block bx (ltAt x22) (I22.not_on x22 (by decide) (by decide) (by decide) (by decide))).trans x22
  clear I22 b22' x22 T23
  dsimp only at I23
  go_wp2_with fail
  refine (segTrim_on w w23 _ kS5 kS6 6 I23 b23 hp rfl).mono ?_
  rintro e w24 ⟨rfl, dg24, sg24, I24, b24, T24⟩
  have x24 := (T24.block bx (ltAt x23) (I23.not_on x23 (by decide) (by decide) (by decide) (by decide))).trans x23
  clear I23 b23 x23 T24
  dsimp only at I24
  go_wp2_with fail
  refine (segGet_on w w24 _ kS6 5 8 0 I24 b24 k10.1 k10.2).mono ?_
  rintro e w25 ⟨site4, a25, dl4, c25, key4, val4, rfl, I25, b25, b25'⟩
  have x25 := keepB x24 b25'
  clear I24 b24 x24 b25'
  go_wp2_with fail
  have b26 := box_below w25 (.cells #[.int .i64 site4, .int .i64 0, .slice a25 dl4 c25, .string key4, .string val4] 57)
  obtain ⟨w26, hw26⟩ : ∃ w26, w25.alloc (.cells #[.int .i64 site4, .int .i64 0, .slice a25 dl4 c25, .string key4, .string val4] 57) = w26 := ⟨_, rfl⟩
  rw [hw26] at b26 ⊢
  have I26 := I25.keep b26
  have x26 := keepB x25 b26
  have b26' := b25.trans (b26.mono b25.size)
  clear I25 b25 x25 b26 hw26
  refine (segAll_calls _ _ kS6 w26 I26).mono ?_
  rintro e w27 ⟨bb, v27, qs27, rfl, A27, b27⟩
  have I27 := I26.keep b27
  have x27 := keepB x26 b27
  have b27' := b26'.trans (b27.mono b26'.size)
  rw [k11] at A27
  clear I26 x26 b26' b27
  go_wp2_with fail
  refine (segRows_on bb _ 9 v27 qs27 [] w27 A27 (fun p hp => by cases hp) (by decide) (by decide)).mono ?_
  rintro e w28 ⟨va, vb, rfl, ⟨pa, ca, rfl, -, -⟩, ⟨pb, cb, rfl, -⟩, b28⟩
  have I28 := I27.keep b28
  have x28 := keepB x27 b28
  have b28' := b27'.trans (b28.mono b27'.size)
  clear I27 x27 b27' b28 A27
  have y1 := (cells5 x28).2.1
  have us := hide (segSealed_calls _ _ kS6 w28 I28)
  have ud := hide (segDisk_calls _ _ kS6 w28 I28)
  rw [k12] at us
  dsimp only at us ud
  have B28 := hide b28'
  clear I28 x28 b28'
  go_wp2_with fail
  refine us.out.mono ?_
  rintro e w' ⟨rfl, hw'⟩
  subst hw'
  go_wp2_with fail
  refine ud.out.mono ?_
  rintro e w'' ⟨rfl, hw''⟩
  subst hw''
  have hpe := diskPtr_same ⟨w.heap.size, 0, none⟩ w''
  go_wp2_with fail
  go_ret
  exact ⟨rfl, B28.out⟩

end Go.Proofs.YtncmocmmkbmmjaaGreatDoor

/- Lines that tell of a segment what it is: replayed they make it again. Pure laws. Own work; no statement. -/
set_option linter.unusedSimpArgs false
set_option linter.unusedVariables false
namespace Go.Proofs.YtncmocmmkbmmjaaGreatDoor

/-- Its disk's lines, one by one let hold, make the segment. -/
def Replay (S : SegD) : Prop := runE (emptyS S.D) S.D.lines 0 = (S, S.D.lines.length)

theorem applyS_with (S : SegD) (D : DiskD) (e : EntD) (k : Nat) : applyS { S with D := D } e k = { applyS S e k with D := D } := by
  unfold applyS
  repeat' split
  all_goals rfl

theorem runE_D (D : DiskD) : ∀ (l : List ByteArray) (S : SegD) (k : Nat), runE { S with D := D } l k = ({ (runE S l k).1 with D := D }, (runE S l k).2)
  | [], S, k => rfl
  | s :: l, S, k => by
    unfold runE
    cases parseE s.data.toList with
    | none => rfl
    | some e =>
      dsimp only
      rw [mayS_D]
      by_cases h : mayS S e = true
      · rw [if_pos h, if_pos h, applyS_with, runE_D D l]
      · rw [if_neg h, if_neg h]

theorem runE_snoc : ∀ (l : List ByteArray) (S S' : SegD) (k : Nat) (s : ByteArray) (e : EntD), runE S l k = (S', k + l.length) → parseE s.data.toList = some e → mayS S' e = true → runE S (l ++ [s]) k = (applyS S' e (k + l.length), k + l.length + 1)
  | [], S, S', k, s, e, h, hp, hm => by
    simp only [runE, List.length_nil, Nat.add_zero, Prod.mk.injEq, and_true] at h
    subst h
    simp only [List.nil_append, List.length_nil, Nat.add_zero]
    unfold runE
    rw [hp]
    dsimp only
    rw [if_pos hm]
    rfl
  | t :: l, S, S', k, s, e, h, hp, hm => by
    have hne : ∀ (n : Nat), k ≠ k + (n + 1) := fun n => by omega
    rw [List.cons_append]
    unfold runE at h ⊢
    cases ht : parseE t.data.toList with
    | none =>
      rw [ht] at h
      simp at h
    | some f =>
      rw [ht] at h
      dsimp only at h ⊢
      by_cases hf : mayS S f = true
      · rw [if_pos hf] at h ⊢
        have e1 : k + (t :: l).length = k + 1 + l.length := by simp; omega
        rw [e1] at h
        rw [e1]
        exact runE_snoc l _ S' (k + 1) s e h hp hm
      · rw [if_neg hf] at h
        simp at h

theorem replay_new (D : DiskD) (h : D.lines = []) : Replay (emptyS D) := by
  unfold Replay
  rw [show (emptyS D).D = D from rfl, h]
  rfl
theorem Replay.lasts {S : SegD} (h : Replay S) (D : DiskD) (hl : D.lines = S.D.lines) : Replay { S with D := D } := by
  unfold Replay at *
  dsimp only
  rw [hl]
  have := runE_D D S.D.lines (emptyS S.D) 0
  rw [h] at this
  exact this
theorem Replay.add {S : SegD} {e : EntD} (h : Replay S) (hm : mayS S e = true) (hp : parseE (textE e).data.toList = some e) (he : addE S e = 0) : Replay (addS S e) := by
  have hl := writeD_lines (D := S.D) (s := textE e) he
  have h1 : runE (emptyS S.D) (S.D.lines ++ [textE e]) 0 = (applyS S e S.D.lines.length, S.D.lines.length + 1) := by
    have := runE_snoc S.D.lines (emptyS S.D) S 0 (textE e) e (by rw [Nat.zero_add]; exact h) hp hm
    rwa [Nat.zero_add] at this
  have h2 := runE_D (writeD S.D (textE e)) (S.D.lines ++ [textE e]) (emptyS S.D) 0
  rw [h1] at h2
  unfold addS
  rw [if_pos he]
  unfold Replay
  rw [applyS_D]
  dsimp only
  rw [hl, applyS_with]
  simp only [List.length_append, List.length_singleton]
  exact h2
theorem Replay.last {S : SegD} {e : EntD} (h : Replay S) (hm : mayS S e = true) (hp : parseE (textE e).data.toList = some e) : Replay (lastS S e) := by
  unfold lastS
  by_cases he : addE S e = 0
  · rw [if_pos he]
    exact (h.add hm hp he).lasts _ rfl
  · rw [if_neg he]
    exact h
theorem Replay.open {S : SegD} (h : Replay S) : openS S.D = S := by
  unfold openS
  rw [h]
  dsimp only
  unfold openD
  rw [if_neg (by omega)]

/-! An entry in words. -/
theorem textE_list (e : EntD) : (textE e).data.toList = e.sign :: 32 :: (Lib.itoa e.n ++ (if e.sign = 112 then 32 :: (textR e.r).data.toList else [])) := by
  unfold textE
  split <;> simp [ByteArray.data_append]

theorem parse_textE {e : EntD} (h : EntW e) : parseE (textE e).data.toList = some { e with r := backR e.r } := by
  rw [textE_list, parseE_eq]
  have hs : e.sign ≠ 32 := by rcases h.sign with h | h | h | h <;> rw [h] <;> decide
  have hc : cutL (e.sign :: 32 :: (Lib.itoa e.n ++ (if e.sign = 112 then 32 :: (textR e.r).data.toList else []))) 32 = ([e.sign], Lib.itoa e.n ++ (if e.sign = 112 then 32 :: (textR e.r).data.toList else []), true) :=
    cut_at [e.sign] _ 32 (fun c hc => by rw [List.mem_singleton] at hc; rw [hc]; exact hs)
  rw [hc]
  dsimp only
  obtain ⟨sign, n, r⟩ := e
  dsimp only at *
  have hn := numL_itoa h.low h.high
  dsimp only at hn
  have hnum : ∀ c : UInt8, c ≠ 112 → sign = c → numE c (Lib.itoa n ++ (if sign = 112 then 32 :: (textR r).data.toList else [])) = some ⟨sign, n, backR r⟩ := by
    intro c hc e
    subst e
    have hz := h.zero hc
    dsimp only at hz
    rw [if_neg hc, List.append_nil, hz]
    unfold numE
    rw [hn]
    simp [backR, zeroR]
  rcases h.sign with hs' | hs' | hs' | hs'
  · have hs' : sign = 112 := hs'
    subst hs'
    rw [if_pos rfl, if_pos rfl]
    unfold putE
    rw [cut_at _ _ 32 (itoa_ne h.low (by decide))]
    dsimp only
    rw [hn, parse_textR (h.put rfl)]
    simp
  · have hs' : sign = 115 := hs'
    rw [if_neg (by rw [hs']; decide), if_pos (by rw [hs'])]
    exact hnum 115 (by decide) hs'
  · have hs' : sign = 99 := hs'
    rw [if_neg (by rw [hs']; decide), if_neg (by rw [hs']; decide), if_pos (by rw [hs'])]
    exact hnum 99 (by decide) hs'
  · have hs' : sign = 116 := hs'
    rw [if_neg (by rw [hs']; decide), if_neg (by rw [hs']; decide), if_neg (by rw [hs']; decide), if_pos (by rw [hs'])]
    exact hnum 116 (by decide) hs'

theorem nums_no10 {l : List Int} (h : InS l) : ∀ k, ∀ c ∈ numsTo l k, c ≠ 10
  | 0 => by simp [numsTo]
  | k + 1 => by
    intro c hc
    simp only [numsTo, List.mem_append] at hc
    rcases hc with hc | hc | hc
    · exact nums_no10 h k c hc
    · split at hc
      · simp at hc
      · simp at hc
        subst hc
        decide
    · rw [itoa_nat _ (getD_inS h k).1] at hc
      exact dig_ne (decDigits_all _ c hc) (by decide)

theorem textR_no10 {r : RecD} (h : GoodR r) : ∀ c ∈ (textR r).data.toList, c ≠ 10 := by
  obtain ⟨-, -, a3, -, a5, -, -, a8, -, a10, a11⟩ := check_parts h
  intro c hc
  rw [textR_list] at hc
  simp only [List.mem_append, List.mem_cons] at hc
  rcases hc with hc | rfl | hc | rfl | hc | rfl | hc | rfl | hc
  · exact itoa_ne a3 (by decide) c hc
  · decide
  · exact itoa_ne (by omega) (by decide) c hc
  · decide
  · unfold textL at hc
    simp only [List.mem_cons, List.mem_append, List.not_mem_nil, or_false] at hc
    rcases hc with rfl | hc | rfl
    · decide
    · exact nums_no10 a8 _ c hc
    · decide
  · decide
  · rintro rfl
    unfold isKeyL at a10
    simp only [Bool.and_eq_true, List.all_eq_true] at a10
    have := a10.2 10 hc
    revert this
    decide
  · decide
  · rintro rfl
    unfold checkValL at a11
    split at a11
    · rename_i hv
      rw [List.all_eq_true] at hv
      have := hv 10 hc
      revert this
      decide
    · cases a11
theorem textE_no10 {e : EntD} (h : EntW e) : ∀ c ∈ (textE e).data.toList, c ≠ 10 := by
  intro c hc
  rw [textE_list] at hc
  simp only [List.mem_append, List.mem_cons] at hc
  rcases hc with rfl | rfl | hc | hc
  · rcases h.sign with h | h | h | h <;> rw [h] <;> decide
  · decide
  · exact itoa_ne h.low (by decide) c hc
  · split at hc
    · rename_i hs
      rcases List.mem_cons.1 hc with rfl | hc
      · decide
      · exact textR_no10 (h.put hs) c hc
    · cases hc

end Go.Proofs.YtncmocmmkbmmjaaGreatDoor

/- What a segment has, by its slots alone: pure laws. Own work; no statement. -/
set_option linter.unusedSimpArgs false
set_option linter.unusedVariables false
namespace Go.Proofs.YtncmocmmkbmmjaaGreatDoor

theorem below_slot {S : SegD} (h : S.ok) {x : SlotD} (hx : x ∈ S.slots) : S.slots[belowN (poss S) x.pos]? = some x := by
  have hp : x.pos ∈ poss S := List.mem_map_of_mem hx
  have hat := (isAt_iff (poss S) x.pos (poss_pairwise h)).2 hp
  have hs := isAt_slot S x.pos
  rw [hat] at hs
  split at hs
  · cases hs
  · rename_i y e
    have hy : y.pos = x.pos := by simpa using hs.symm
    have hym : y ∈ S.slots := List.mem_of_getElem? e
    have : y = x := by
      obtain ⟨i, hi, rfl⟩ := List.mem_iff_getElem.1 hym
      obtain ⟨j, hj, rfl⟩ := List.mem_iff_getElem.1 hx
      rcases Nat.lt_trichotomy i j with h1 | h1 | h1
      · have := List.pairwise_iff_getElem.1 h.rising i j hi hj h1
        omega
      · subst h1
        rfl
      · have := List.pairwise_iff_getElem.1 h.rising j i hj hi h1
        omega
    rw [e, this]
theorem not_at {S : SegD} (h : S.ok) {pos : Int} (hx : ∀ x ∈ S.slots, x.pos ≠ pos) : isAt (poss S) pos = false := by
  rw [Bool.eq_false_iff]
  intro e
  have := (isAt_iff (poss S) pos (poss_pairwise h)).1 e
  unfold poss at this
  obtain ⟨x, h1, h2⟩ := List.mem_map.1 this
  exact hx x h1 h2

theorem getS_mem {S : SegD} (h : S.ok) {x : SlotD} (hx : x ∈ S.slots) : getS S x.pos = (x.r, 0) := by
  have := (h.each x hx).2.2.1
  unfold getS
  rw [if_neg (by omega), below_slot h hx]
  dsimp only
  rw [if_pos rfl]
theorem getS_none {S : SegD} (h : S.ok) {pos : Int} (ht : ¬ pos < S.trim) (hx : ∀ x ∈ S.slots, x.pos ≠ pos) : getS S pos = (zeroR, 9) := getS_not ht (not_at h hx)
theorem getS_trim {S : SegD} {pos : Int} (ht : pos < S.trim) : getS S pos = (zeroR, 8) := by unfold getS; rw [if_pos ht]

theorem lastsS_mem {S : SegD} (h : S.ok) {x : SlotD} (hx : x ∈ S.slots) : lastsS S x.pos = decide (x.line < S.D.lasts) := by
  unfold lastsS
  rw [below_slot h hx]
  dsimp only
  rw [decide_eq_true rfl, Bool.true_and]
theorem lastsS_none {S : SegD} (h : S.ok) {pos : Int} (hx : ∀ x ∈ S.slots, x.pos ≠ pos) : lastsS S pos = false := by
  have := isAt_slot S pos
  rw [not_at h hx] at this
  unfold lastsS
  split
  · rfl
  · rename_i x e
    rw [e] at this
    dsimp only at this
    rw [← this, Bool.false_and]

theorem ins_mem {α : Type} (l : List α) (i : Nat) (y x : α) : x ∈ insL l i y ↔ x ∈ l ∨ x = y := by
  unfold insL
  rw [List.mem_append, List.mem_cons]
  constructor
  · rintro (h | h | h)
    · exact .inl (List.mem_of_mem_take h)
    · exact .inr h
    · exact .inl (List.mem_of_mem_drop h)
  · rintro (h | h)
    · rw [← List.take_append_drop i l, List.mem_append] at h
      exact h.imp id .inr
    · exact .inr (.inl h)
theorem cut_mem {S : SegD} (h : S.ok) (n : Int) (x : SlotD) : x ∈ S.slots.take (belowN (poss S) n) ↔ x ∈ S.slots ∧ x.pos < n := by
  have hs := slots_split h n
  constructor
  · exact fun hx => ⟨List.mem_of_mem_take hx, hs.1 x hx⟩
  · rintro ⟨h1, h2⟩
    rw [← List.take_append_drop (belowN (poss S) n) S.slots, List.mem_append] at h1
    rcases h1 with h1 | h1
    · exact h1
    · have := hs.2 x h1
      omega
theorem trim_mem {S : SegD} (h : S.ok) (n : Int) (x : SlotD) : x ∈ S.slots.drop (belowN (poss S) n) ↔ x ∈ S.slots ∧ n ≤ x.pos := by
  have hs := slots_split h n
  constructor
  · exact fun hx => ⟨List.mem_of_mem_drop hx, hs.2 x hx⟩
  · rintro ⟨h1, h2⟩
    rw [← List.take_append_drop (belowN (poss S) n) S.slots, List.mem_append] at h1
    rcases h1 with h1 | h1
    · have := hs.1 x h1
      omega
    · exact h1

/-- There is room: an entry is written. -/
theorem addE_room {S : SegD} {e : EntD} (he : EntW e) (h : (bytesOf S.D.lines : Int) + 401 ≤ S.D.room) : addE S e = 0 := by
  unfold addE writeE
  have h1 : hasEnd (textE e) = false := by
    unfold hasEnd
    rw [decide_eq_false_iff_not]
    exact fun hm => textE_no10 he 10 hm rfl
  have h2 := textE_size he
  rw [if_neg (by rw [h1]; decide), if_neg (by omega)]
/-- What add makes, field by field. -/
theorem addS_ok {S : SegD} {e : EntD} (h : addE S e = 0) : addS S e = { applyS S e S.D.lines.length with D := ⟨S.D.room, S.D.lines ++ [textE e], S.D.lasts⟩ } := by
  unfold addS
  rw [if_pos h, applyS_with]
  unfold addE at h
  unfold writeD
  rw [if_pos h]
theorem lastS_ok {S : SegD} {e : EntD} (h : addE S e = 0) : lastS S e = { applyS S e S.D.lines.length with D := ⟨S.D.room, S.D.lines ++ [textE e], S.D.lines.length + 1⟩ } := by
  unfold lastS
  rw [if_pos h, addS_ok h]
  simp
theorem bytes_add {l : List ByteArray} {e : EntD} (he : EntW e) : bytesOf (l ++ [textE e]) ≤ bytesOf l + 401 := by
  have := textE_size he
  rw [bytesOf_append]
  simp [bytesOf]
  omega

theorem lawR_good {site seq : Int} (h0 : 0 ≤ site) (h1 : site < 8) (h2 : 1 ≤ seq) (h3 : seq ≤ 1048576) : GoodR (lawR site seq) := by
  unfold GoodR checkR lawR
  dsimp only
  rw [if_neg (by omega), if_pos (by decide +kernel), if_neg (by
    have : geti [] site = 0 := by unfold geti; split <;> simp
    omega), if_pos (by decide +kernel)]
  decide +kernel
theorem back_lawR (site seq : Int) : backR (lawR site seq) = lawR site seq := rfl

theorem put_w {pos : Int} {r : RecD} (h0 : 0 ≤ pos) (h1 : pos ≤ 2147483647) (hg : GoodR r) : EntW ⟨112, pos, r⟩ := ⟨.inl rfl, h0, h1, fun _ => hg, fun h => absurd rfl h⟩

/-- All lasts: nothing is lost. -/
theorem crash_all {D : DiskD} (h : D.lasts = D.lines.length) (keep : Int) : crashD D keep = D := by
  have hw : wholeN D keep = D.lines.length := by
    unfold wholeN
    rw [h, List.drop_eq_nil_of_le (Nat.le_refl _)]
    simp [keepN]
  unfold crashD
  rw [hw, List.take_of_length_le (Nat.le_refl _)]
  cases D
  dsimp only at *
  rw [h]

end Go.Proofs.YtncmocmmkbmmjaaGreatDoor

/- A line of the reference's, and of ours: pure laws. Own work; no statement. -/
set_option linter.unusedSimpArgs false
set_option linter.unusedVariables false
namespace Go.Proofs.YtncmocmmkbmmjaaGreatDoor

theorem parseR_nil : (parseR []).2 ≠ 0 := by decide +kernel
theorem numL_nil : (numL []).2 = false := by decide +kernel

theorem index_cut (l : List UInt8) (c : UInt8) (j : Nat) (h : Lib.indexByte l c = j) : cutL l c = (l.take j, l.drop (j + 1), true) := by
  unfold cutL
  rw [h, if_neg (by omega)]
  have e : ((j : Int) + 1).toNat = j + 1 := by omega
  simp [e]
theorem index_no (l : List UInt8) (c : UInt8) (h : Lib.indexByte l c = -1) : cutL l c = (l, [], false) := by
  unfold cutL
  rw [h, if_pos (by omega)]

/-- A line whose second byte is a blank. -/
theorem parseE_two (c : UInt8) (rest : List UInt8) : parseE (c :: 32 :: rest) = if c = 112 then putE rest else if c = 115 then numE 115 rest else if c = 99 then numE 99 rest else if c = 116 then numE 116 rest else none := by
  rw [parseE_eq]
  by_cases hc : c = 32
  · subst hc
    have : cutL (32 :: 32 :: rest) 32 = ([], 32 :: rest, true) := cut_at [] _ 32 (fun _ h => by cases h)
    rw [this]
    dsimp only
    rw [if_neg (by decide), if_neg (by decide), if_neg (by decide), if_neg (by decide), if_neg (by decide), if_neg (by decide), if_neg (by decide), if_neg (by decide)]
  · have : cutL (c :: 32 :: rest) 32 = ([c], rest, true) := cut_at [c] rest 32 (fun x h => by rw [List.mem_singleton] at h; rw [h]; exact hc)
    rw [this]
    dsimp only
    simp only [List.cons.injEq, and_true]

theorem first_of : ∀ (l : List UInt8) (c : UInt8), (∀ x ∈ l, x ≠ c) ∨ ∃ a b, l = a ++ c :: b ∧ ∀ x ∈ a, x ≠ c
  | [], c => .inl (fun x hx => by cases hx)
  | y :: l, c => by
    by_cases hy : y = c
    · subst hy
      exact .inr ⟨[], l, rfl, fun x hx => by cases hx⟩
    · rcases first_of l c with h | ⟨a, b, rfl, h⟩
      · exact .inl (fun x hx => by
          rcases List.mem_cons.1 hx with rfl | hx
          · exact hy
          · exact h x hx)
      · refine .inr ⟨y :: a, b, rfl, fun x hx => ?_⟩
        rcases List.mem_cons.1 hx with rfl | hx
        · exact hy
        · exact h x hx

/-- A line that is short, or whose second byte is no blank. -/
theorem parseE_short (L : List UInt8) (h : L.length < 3 ∨ ¬ L[1]? = some 32) : parseE L = none := by
  match L with
  | [] => decide +kernel
  | [c] =>
    rw [parseE_eq]
    by_cases hc : c = 32
    · subst hc
      decide +kernel
    · have hx : cutL [c] 32 = ([c], [], false) := index_no _ _ (index_none [c] 32 (fun x hx => by rw [List.mem_singleton] at hx; rw [hx]; exact hc))
      rw [hx]
      dsimp only
      have hp : putE [] = none := by decide +kernel
      have hn : ∀ d, numE d [] = none := fun d => by unfold numE; rw [numL_nil]; rfl
      rw [hp, hn, hn, hn]
      simp
  | c :: d :: rest =>
    by_cases hd : d = 32
    · subst hd
      rcases h with h | h
      · have hr : rest = [] := List.eq_nil_of_length_eq_zero (by simp at h; omega)
        subst hr
        rw [parseE_two]
        have hp : putE [] = none := by decide +kernel
        have hn : ∀ d, numE d [] = none := fun d => by unfold numE; rw [numL_nil]; rfl
        rw [hp, hn, hn, hn]
        simp
      · exact absurd rfl h
    · rw [parseE_eq]
      have hx : ∀ a, (cutL (c :: d :: rest) 32).1 ≠ [a] := by
        intro a e
        by_cases hc : c = 32
        · subst hc
          have : cutL (32 :: d :: rest) 32 = ([], d :: rest, true) := cut_at [] _ 32 (fun _ h => by cases h)
          rw [this] at e
          cases e
        · have hl : 2 ≤ (cutL (c :: d :: rest) 32).1.length := by
            rcases first_of rest 32 with h1 | ⟨x, y, rfl, h1⟩
            · rw [index_no _ _ (index_none (c :: d :: rest) 32 (fun z hz => by
                rcases List.mem_cons.1 hz with rfl | hz
                · exact hc
                · rcases List.mem_cons.1 hz with rfl | hz
                  · exact hd
                  · exact h1 z hz))]
              simp
            · rw [show c :: d :: (x ++ 32 :: y) = (c :: d :: x) ++ 32 :: y from rfl, cut_at (c :: d :: x) y 32 (fun z hz => by
                rcases List.mem_cons.1 hz with rfl | hz
                · exact hc
                · rcases List.mem_cons.1 hz with rfl | hz
                  · exact hd
                  · exact h1 z hz)]
              simp
          rw [e] at hl
          simp at hl
      rw [if_neg (hx _), if_neg (hx _), if_neg (hx _), if_neg (hx _)]

/-- What a put has behind its sign, by where the next blank stands. -/
theorem putE_find (c : UInt8) (rest : List UInt8) : (findL (c :: 32 :: rest) 32 2 = -1 ∧ putE rest = none) ∨ ∃ k : Nat, findL (c :: 32 :: rest) 32 2 = k ∧ 2 ≤ k ∧ k < (c :: 32 :: rest).length ∧ putE rest = if (numL (rest.take (k - 2))).2 = true ∧ (parseR (rest.drop (k - 1))).2 = 0 then some ⟨112, (numL (rest.take (k - 2))).1, (parseR (rest.drop (k - 1))).1⟩ else none := by
  have hf : findL (c :: 32 :: rest) 32 2 = if Lib.indexByte rest 32 = -1 then -1 else 2 + Lib.indexByte rest 32 := rfl
  by_cases h : Lib.indexByte rest 32 = -1
  · left
    refine ⟨by rw [hf, if_pos h], ?_⟩
    unfold putE
    rw [index_no rest 32 h]
    dsimp only
    rw [if_neg (fun hh => parseR_nil hh.2)]
  · right
    have h1 := Lib.indexByte_ge rest 32
    have h2 := indexByte_lt rest 32
    obtain ⟨j, hj⟩ : ∃ j : Nat, Lib.indexByte rest 32 = j := ⟨(Lib.indexByte rest 32).toNat, by omega⟩
    refine ⟨j + 2, by rw [hf, if_neg h, hj]; omega, by omega, by simp; omega, ?_⟩
    unfold putE
    rw [index_cut rest 32 j hj]
    dsimp only
    rw [show j + 2 - 2 = j by omega, show j + 2 - 1 = j + 1 by omega]

end Go.Proofs.YtncmocmmkbmmjaaGreatDoor

/- The reference's disks in memory; its small functions. Own work; no statement. -/
set_option linter.unusedSimpArgs false
set_option linter.unusedVariables false
namespace Go.Proofs.YtncmocmmkbmmjaaGreatDoor
open Go.RowKit Go.Shelf

/-- At block q there lies a disk of the reference, its lines in a row of their own. -/
structure IsRD (w : World) (B q : Nat) (g : Option Nat) (D : DiskD) : Prop where
  ok : D.ok
  low : B ≤ q
  val : ∃ v, v.ownBlock = g ∧ w.heap[q]? = some (.cells #[.int .i64 D.room, v, .int .i64 D.lasts] 46 (0, 0)) ∧ w.ownsRow B 9 1 v D.lines.length (D.lines.map Value.string)

theorem IsRD.lt {w : World} {B p : Nat} {g : Option Nat} {D : DiskD} (h : IsRD w B p g D) : p < w.heap.size := by
  obtain ⟨v, _, hp, _⟩ := h.val
  exact ltAt hp
theorem IsRD.row {w : World} {B p : Nat} {g : Option Nat} {D : DiskD} (h : IsRD w B p g D) : ∀ k, g = some k → B ≤ k ∧ k < w.heap.size := by
  obtain ⟨v, rfl, hp, hr⟩ := h.val
  exact hr.lt
theorem IsRD.on {w : World} {B p : Nat} {g : Option Nat} {D : DiskD} (h : IsRD w B p g D) {k : Nat} (hk : onDisk p g k) : B ≤ k ∧ k < w.heap.size := by
  rcases hk with rfl | e
  · exact ⟨h.low, h.lt⟩
  · exact h.row k e
theorem IsRD.keep {w w' : World} {B p : Nat} {g : Option Nat} {D : DiskD} (h : IsRD w B p g D) (hk : ∀ k, onDisk p g k → w'.heap[k]? = w.heap[k]?) : IsRD w' B p g D := by
  obtain ⟨v, hv, hp, hr⟩ := h.val
  exact ⟨h.ok, h.low, v, hv, (hk p (.inl rfl)).trans hp, ownsRow_of_heap hr fun k e => hk k (.inr (hv ▸ e))⟩
theorem IsRD.touch {w w' : World} {S : Nat → Prop} {B p : Nat} {g : Option Nat} {D : DiskD} (h : IsRD w B p g D) (t : Touch S w w') (hS : ∀ k, onDisk p g k → ¬ S k) : IsRD w' B p g D :=
  h.keep fun k hk => t.block k (h.on hk).2 (hS k hk)
theorem IsRD.new {w w' : World} {B p : Nat} {g : Option Nat} {D : DiskD} (h : IsRD w B p g D) (t : Below w.heap.size w w') : IsRD w' B p g D :=
  h.keep fun k hk => t.block k (h.on hk).2
theorem IsRD.drews {w : World} {B p : Nat} {g : Option Nat} {D : DiskD} (h : IsRD w B p g D) (n : Nat) : IsRD (w.drewN n) B p g D := h.keep fun _ _ => rfl
theorem IsRD.below {w w' : World} {B p : Nat} {g : Option Nat} {D : DiskD} (h : IsRD w B p g D) (hB : B ≤ w.heap.size) (t : Touch (onDisk p g) w w') : Below B w w' := t.below hB fun _ _ e => (h.on e).1
theorem IsRD.len {w : World} {B p : Nat} {g : Option Nat} {D : DiskD} (h : IsRD w B p g D) : D.lines.length ≤ 1048576 ∧ bytesOf D.lines ≤ 1048576 := by
  have := bytesOf_length D.lines
  have := h.ok.fits
  have := h.ok.high
  omega
/-- Its cells, for a walk. -/
theorem IsRD.open {w : World} {B p : Nat} {g : Option Nat} {D : DiskD} (h : IsRD w B p g D) : ∃ a cap, w.cell? ⟨p, 0, none⟩ = some (.int .i64 D.room) ∧ w.cell? ⟨p, 1, none⟩ = some (.slice a D.lines.length cap) ∧ w.cell? ⟨p, 2, none⟩ = some (.int .i64 D.lasts) ∧
    (∀ j, w.frozen? ⟨p, j, none⟩ = false) ∧ (Value.slice a D.lines.length cap).ownBlock = g ∧ w.ownsRow B 9 1 (.slice a D.lines.length cap) D.lines.length (D.lines.map Value.string) ∧
    w.heap[p]? = some (.cells #[.int .i64 D.room, .slice a D.lines.length cap, .int .i64 D.lasts] 46 (0, 0)) := by
  obtain ⟨v, hv, hp, hr⟩ := h.val
  obtain ⟨a, cap, rfl⟩ := ownsRow_slice hr
  exact ⟨a, cap, by simpa using cellsAt hp 0, by simpa using cellsAt hp 1, by simpa using cellsAt hp 2, fun j => frozenAt hp j, hv, hr, hp⟩

set_option maxHeartbeats 400000 in
theorem refDiskNew_calls (room : Int) (w : World) (h : 1 ≤ room) (h' : room ≤ 1048576) :
    Calls Tryz.prog 9 #[.int .i64 room] w fun e w' => e = .returned (.tuple #[.pointer (some ⟨w.heap.size, 0, none⟩), .int .i64 0]) ∧ IsRD w' w.heap.size w.heap.size none ⟨room, [], 0⟩ ∧ Below w.heap.size w w' := by
  go_enter Tryz.func9, Tryz.ntmps9
  go_wp2
  go_ret2
  refine ⟨rfl, ⟨⟨h, h', by simp [bytesOf]; omega, by simp⟩, Nat.le_refl _, _, rfl, World.alloc_heap_new w _, World.ownsRow_nil _ _ _ _⟩, (Below.refl _ w).alloc (Nat.le_refl _) _⟩
set_option maxHeartbeats 400000 in
theorem refDiskNew_bad (room : Int) (w : World) (h : ¬ (1 ≤ room ∧ room ≤ 1048576)) :
    Calls Tryz.prog 9 #[.int .i64 room] w fun e w' => e = .returned (.tuple #[.pointer none, .int .i64 1]) ∧ w' = w := by
  by_cases h0 : room < 1
  · go_enter Tryz.func9, Tryz.ntmps9
    go_wp2
    go_ret2
    exact ⟨rfl, rfl⟩
  · have h1 : room > 1048576 := by omega
    go_enter Tryz.func9, Tryz.ntmps9
    go_wp2
    go_ret2
    exact ⟨rfl, rfl⟩
theorem bytesOf_take_succ (l : List ByteArray) (k : Nat) (h : k < l.length) : bytesOf (l.take (k + 1)) = bytesOf (l.take k) + l[k].size + 1 := by
  rw [List.take_add_one, List.getElem?_eq_getElem h, Option.toList_some, bytesOf_append]
  simp [bytesOf]
  omega
theorem bytesOf_take_le (l : List ByteArray) (k : Nat) : bytesOf (l.take k) ≤ bytesOf l := by
  have := bytesOf_take l k
  omega
set_option maxHeartbeats 1000000 in
theorem refDiskUsed_calls (B p : Nat) (g : Option Nat) (D : DiskD) (w : World) (hd : IsRD w B p g D) :
    Calls Tryz.prog 37 #[.pointer (some ⟨p, 0, none⟩)] w fun e w' => e = .returned (.int .i64 (bytesOf D.lines)) ∧ w' = w := by
  obtain ⟨a, cap, c0, c1, c2, hf, -, hr, -⟩ := hd.open
  have hl := hd.len
  have Hr := hide hr
  clear hd hr hf c0 c2
  go_enter Tryz.func37, Tryz.ntmps37
  go_wp2_with fail
  go_loop [3, 4] (fun n i => ∃ k : Nat, k ≤ D.lines.length ∧ n = .int .i64 (bytesOf (D.lines.take k) : Int) ∧ i = .int .i64 (k : Int)) (fun _ i => D.lines.length - (intOf i).toNat)
  case atStart => exact ⟨0, Nat.zero_le _, by simp [bytesOf], rfl⟩
  case round =>
    obtain ⟨k, hk, rfl, rfl⟩ := hrel
    by_cases hlt : k < D.lines.length
    · have hltI : (k : Int) < (D.lines.length : Int) := by omega
      obtain ⟨b, rfl, hc⟩ := strs_cell Hr.out k hlt
      have h1 := bytesOf_take_succ D.lines k hlt
      have h2 := bytesOf_take_le D.lines (k + 1)
      obtain ⟨s, hs⟩ : ∃ s, D.lines[k] = s := ⟨_, rfl⟩
      obtain ⟨y, hy⟩ : ∃ y, bytesOf (D.lines.take k) = y := ⟨_, rfl⟩
      rw [hs] at hc h1
      rw [hy] at h1 ⊢
      have H1 := hide h1
      have hb : y + s.size + 1 ≤ 1048576 := by omega
      clear hs hy h1 h2
      go_wp2_with fail
      refine ⟨⟨k + 1, by omega, by rw [H1.out]; congr 1, by go_num⟩, by simp [intOf]; omega⟩
    · have hltI : ¬ (k : Int) < (D.lines.length : Int) := by omega
      have e : D.lines.take k = D.lines := List.take_of_length_le (by omega)
      rw [e]
      go_wp2
      go_ret
      exact ⟨rfl, rfl⟩
theorem rd_setAt {w : World} {B p : Nat} {g : Option Nat} {D : DiskD} (hd : IsRD w B p g D) (m : Nat) (hm : m ≤ D.lines.length) : IsRD (w.setCell ⟨p, 2, none⟩ (.int .i64 (m : Int))) B p g ⟨D.room, D.lines, m⟩ := by
  obtain ⟨v, hv, hp, hr⟩ := hd.val
  refine ⟨⟨hd.ok.low, hd.ok.high, hd.ok.fits, hm⟩, hd.low, v, hv, by simpa using setAt (j := 2) hp (.int .i64 (m : Int)), ownsRow_of_heap hr fun k e => ?_⟩
  refine Below.heap_setCell _ _ _ _ fun e' => row_not hr hp (by decide) ?_
  rw [e]
  exact congrArg some e'.symm
set_option maxHeartbeats 400000 in
theorem refDiskSync_calls (B p : Nat) (g : Option Nat) (D : DiskD) (w : World) (hd : IsRD w B p g D) :
    Calls Tryz.prog 44 #[.pointer (some ⟨p, 0, none⟩)] w fun e w' => e = .returned (.tuple #[]) ∧ IsRD w' B p g ⟨D.room, D.lines, D.lines.length⟩ ∧ Touch (onDisk p g) w w' := by
  obtain ⟨a, cap, c0, c1, c2, hf, -, -, -⟩ := hd.open
  have hl := hd.len
  have f2 := hf 2
  have Hd := hide hd
  clear hd hf
  go_enter Tryz.func44, Tryz.ntmps44
  go_wp2
  go_end0
  exact ⟨rfl, rd_setAt Hd.out _ (Nat.le_refl _), (Touch.refl _ _).set _ _ (.inl rfl)⟩

end Go.Proofs.YtncmocmmkbmmjaaGreatDoor
