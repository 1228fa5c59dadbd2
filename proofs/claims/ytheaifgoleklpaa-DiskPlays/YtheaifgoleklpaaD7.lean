/- The laws' known, over disks. Own work; no statement. -/
import Derived.Test.YtheaifgoleklpaaD6
set_option linter.unusedSimpArgs false
set_option linter.unusedVariables false
namespace Go.Proofs.Ytheaifgoleklpaa
open Go.RowKit Go.Shelf

theorem IsDisk.drews {w : World} {B p : Nat} {g : Option Nat} {D : DiskD} (h : IsDisk w B p g D) (n : Nat) : IsDisk (w.drewN n) B p g D := h.keep fun _ _ => rfl
/-- A disk's own changes lie from B on. -/
theorem IsDisk.below {w w' : World} {B p : Nat} {g : Option Nat} {D : DiskD} (h : IsDisk w B p g D) (hB : B ≤ w.heap.size) (t : Touch (onDisk p g) w w') : Below B w w' := t.below hB fun _ _ e => (h.on e).1

/-- Write, what it answers and makes named. -/
theorem diskWrite_to (B p : Nat) (g : Option Nat) (D : DiskD) (s : ByteArray) (c : Int) (D' : DiskD) (he : writeE D s = c) (hD : writeD D s = D') (w : World) (hd : IsDisk w B p g D) (hB : B ≤ w.heap.size) (hs : s.size ≤ 1099511627776) :
    Calls Try.prog 12 #[.pointer (some ⟨p, 0, none⟩), .string s] w fun e w' => e = .returned (.int .i64 c) ∧ ∃ g', IsDisk w' B p g' D' ∧ Touch (onDisk p g) w w' ∧ (∀ k, g' = some k → g = some k ∨ w.heap.size ≤ k) := by
  subst he
  subst hD
  exact diskWrite_calls B p g D s w hd hB hs
theorem diskCrash_to (B p : Nat) (g : Option Nat) (D : DiskD) (keep : Int) (D' : DiskD) (hD : crashD D keep = D') (w : World) (hd : IsDisk w B p g D) (hk0 : -9223372036854775808 ≤ keep) (hk1 : keep ≤ 9223372036854775807) :
    Calls Try.prog 16 #[.pointer (some ⟨p, 0, none⟩), .int .i64 keep] w fun e w' => e = .returned (.tuple #[]) ∧ IsDisk w' B p g D' ∧ Touch (onDisk p g) w w' := by
  subst hD
  exact diskCrash_calls B p g D keep w hd hk0 hk1
theorem diskCut_to (B p : Nat) (g : Option Nat) (D : DiskD) (n c : Int) (D' : DiskD) (he : cutE D n = c) (hD : cutD D n = D') (w : World) (hd : IsDisk w B p g D) :
    Calls Try.prog 18 #[.pointer (some ⟨p, 0, none⟩), .int .i64 n] w fun e w' => e = .returned (.int .i64 c) ∧ IsDisk w' B p g D' ∧ Touch (onDisk p g) w w' := by
  subst he
  subst hD
  exact diskCut_calls B p g D n w hd

theorem diskLen_to (B p : Nat) (g : Option Nat) (D : DiskD) (c : Int) (hc : (D.lines.length : Int) = c) (w : World) (hd : IsDisk w B p g D) :
    Calls Try.prog 24 #[.pointer (some ⟨p, 0, none⟩)] w fun e w' => e = .returned (.int .i64 c) ∧ w' = w := by
  subst hc
  exact diskLen_calls B p g D w hd
theorem diskUsed_to (B p : Nat) (g : Option Nat) (D : DiskD) (c : Int) (hc : (bytesOf D.lines : Int) = c) (w : World) (hd : IsDisk w B p g D) :
    Calls Try.prog 26 #[.pointer (some ⟨p, 0, none⟩)] w fun e w' => e = .returned (.int .i64 c) ∧ w' = w := by
  subst hc
  exact diskUsed_calls B p g D w hd
theorem diskWaits_to (B p : Nat) (g : Option Nat) (D : DiskD) (c : Int) (hc : (D.lines.length : Int) - (D.lasts : Int) = c) (w : World) (hd : IsDisk w B p g D) :
    Calls Try.prog 25 #[.pointer (some ⟨p, 0, none⟩)] w fun e w' => e = .returned (.int .i64 c) ∧ ∃ n, w' = w.drewN n := by
  subst hc
  exact diskWaits_calls B p g D w hd
theorem diskSync_to (B p : Nat) (g : Option Nat) (D : DiskD) (m : Nat) (hm : D.lines.length = m) (w : World) (hd : IsDisk w B p g D) :
    Calls Try.prog 14 #[.pointer (some ⟨p, 0, none⟩)] w fun e w' => e = .returned (.tuple #[]) ∧ IsDisk w' B p g ⟨D.room, D.lines, m⟩ ∧ Touch (onDisk p g) w w' := by
  subst hm
  exact diskSync_calls B p g D w hd

/-- Two disks that lie apart. -/
def Apart (p : Nat) (g : Option Nat) (p' : Nat) (g' : Option Nat) : Prop := ∀ k, onDisk p g k → ¬ onDisk p' g' k
theorem Apart.symm {p p' : Nat} {g g' : Option Nat} (h : Apart p g p' g') : Apart p' g' p g := fun k h1 h2 => h k h2 h1
/-- A new one lies apart from an elder one. -/
theorem apart_new {w w' : World} {B B' p p' : Nat} {g g' : Option Nat} {D D' : DiskD} (h : IsDisk w B p g D) (h' : IsDisk w' B' p' g' D') (hB : w.heap.size ≤ B') : Apart p g p' g' := fun k h1 h2 => by
  have := (h.on h1).2
  have := (h'.on h2).1
  omega
/-- One that goes on apart from another one stays so. -/
theorem Apart.goes {w : World} {B p p' : Nat} {g g1 g' : Option Nat} {D : DiskD} (h : Apart p g p' g') (hd : IsDisk w B p' g' D) (hg : ∀ k, g1 = some k → g = some k ∨ w.heap.size ≤ k) : Apart p g1 p' g' := fun k h1 h2 => by
  rcases h1 with rfl | e
  · exact h k (.inl rfl) h2
  · rcases hg k e with e' | e'
    · exact h k (.inr e') h2
    · have := (hd.on h2).2
      omega

set_option maxRecDepth 100000 in
set_option maxHeartbeats 8000000 in
theorem diskKnown_calls (w : World) : Calls Try.prog 8 #[] w fun e w' => e = .returned (.bool true) ∧ Below w.heap.size w w' := by
  go_enter Try.func8, Try.ntmps8
  go_wp2_with (first | (go_at_call_of 10 (Value.int .i64 20); refine (diskNew_calls 20 _ (by decide) (by decide)).mono ?_; rintro e w1 ⟨rfl, d1, b1⟩) | (go_at_call_of 10 (Value.int .i64 0); refine (diskNew_bad 0 _ (by decide)).mono ?_; rintro e w2 ⟨rfl, hw2⟩; subst hw2))
  refine (diskWrite_to _ _ _ _ _ 0 ⟨20, [⟨#[97, 98, 99]⟩], 0⟩ (by decide) rfl _ d1 b1.size (by decide)).mono ?_
  rintro e w3 ⟨rfl, g3, d3, t3, n3⟩
  have b3 := b1.trans (d1.below b1.size t3)
  clear d1 b1 t3 n3
  go_wp2_with fail
  refine (diskSync_calls _ _ _ _ _ d3).mono ?_
  rintro e w4 ⟨rfl, d4, t4⟩
  have b4 := b3.trans (d3.below b3.size t4)
  clear d3 b3 t4
  go_wp2_with fail
  refine (diskWrite_to _ _ _ _ _ 0 ⟨20, [⟨#[97, 98, 99]⟩, ⟨#[100, 101, 102, 103]⟩], 1⟩ (by decide) rfl _ d4 b4.size (by decide)).mono ?_
  rintro e w5 ⟨rfl, g5, d5, t5, n5⟩
  have b5 := b4.trans (d4.below b4.size t5)
  clear d4 b4 t5 n5
  go_wp2_with fail
  refine (diskWrite_to _ _ _ _ _ 0 ⟨20, [⟨#[97, 98, 99]⟩, ⟨#[100, 101, 102, 103]⟩, ⟨#[120]⟩], 1⟩ (by decide) rfl _ d5 b5.size (by decide)).mono ?_
  rintro e w6 ⟨rfl, g6, d6, t6, n6⟩
  have b6 := b5.trans (d5.below b5.size t6)
  clear d5 b5 t6 n6
  go_wp2_with fail
  refine (diskWrite_to _ _ _ _ _ 6 ⟨20, [⟨#[97, 98, 99]⟩, ⟨#[100, 101, 102, 103]⟩, ⟨#[120]⟩], 1⟩ (by decide) rfl _ d6 b6.size (by decide)).mono ?_
  rintro e w7 ⟨rfl, g7, d7, t7, n7⟩
  have b7 := b6.trans (d6.below b6.size t7)
  clear d6 b6 t7 n7
  go_wp2_with fail
  refine (diskTwin_calls _ _ _ _ _ d7).mono ?_
  rintro e w8 ⟨rfl, gt, dt, tt⟩
  have ap := apart_new d7 dt (Nat.le_refl _)
  have d8 := d7.new tt
  have b8 := b7.trans (tt.mono b7.size)
  have dt8 := dt.lower b7.size
  obtain ⟨pt, hpt⟩ : ∃ pt, w7.heap.size = pt := ⟨_, rfl⟩
  rw [hpt] at dt8 ap ⊢
  clear d7 b7 dt tt hpt
  go_wp2_with fail
  refine (diskWaits_calls _ _ _ _ _ d8).mono ?_
  rintro e w9 ⟨rfl, n9, rfl⟩
  replace d8 := d8.drews n9
  replace dt8 := dt8.drews n9
  replace b8 := b8.trans ((drewsB w8 n9).mono b8.size)
  go_wp2_with fail
  refine (diskCrash_to _ _ _ _ 6 ⟨20, [⟨#[97, 98, 99]⟩, ⟨#[100, 101, 102, 103]⟩], 2⟩ rfl _ d8 (by decide) (by decide)).mono ?_
  rintro e w10 ⟨rfl, d10, t10⟩
  have dt10 := dt8.touch t10 ap.symm
  have b10 := b8.trans (d8.below b8.size t10)
  clear d8 dt8 b8 t10
  go_wp2_with fail
  refine (diskLines_calls _ _ _ _ _ d10).mono ?_
  rintro e w11 ⟨bs, rfl, hbs, hseq, t11⟩
  have d11 := d10.new t11
  have dt11 := dt10.new t11
  have b11 := b10.trans (t11.mono b10.size)
  clear d10 dt10 b10 t11
  go_wp2_with fail
  refine (lawLines3_calls _ 9 _ _ hseq (by decide) (by decide)).mono ?_
  rintro e w12 ⟨vl, rfl, hvl, t12⟩
  have d12 := d11.new t12
  have dt12 := dt11.new t12
  have b12 := b11.trans (t12.mono b11.size)
  clear d11 dt11 b11 t12 hseq
  obtain ⟨al, cl, rfl⟩ := ownsRow_slice hvl
  obtain ⟨bl, rfl, hcl⟩ := strs_cell hvl 1 (by decide)
  have hcl' : w12.cell? ⟨bl, 1, none⟩ = some (.string ⟨#[100, 101, 102, 103]⟩) := hcl
  clear hcl hvl
  have D12 := hide d12
  have DT12 := hide dt12
  have B12 := hide b12
  have Ap := hide ap
  clear d12 dt12 b12 ap
  go_wp2_with fail
  refine (diskLen_calls _ _ _ _ _ D12.out).mono ?_
  rintro e w13 ⟨rfl, hw13⟩
  subst hw13
  go_wp2_with fail
  refine (diskWaits_calls _ _ _ _ _ D12.out).mono ?_
  rintro e w14 ⟨rfl, n14, hw14⟩
  have B14 := hide (B12.out.trans ((drewsB _ n14).mono B12.out.size))
  have D14 := hide (D12.out.drews n14)
  have DT14 := hide (DT12.out.drews n14)
  rw [← hw14] at B14 D14 DT14
  clear D12 DT12 B12 hcl' hw14
  go_wp2_with fail
  refine (diskUsed_calls _ _ _ _ _ D14.out).mono ?_
  rintro e w15 ⟨rfl, hw15⟩
  subst hw15
  go_wp2_with fail
  refine (diskLen_calls _ _ _ _ _ DT14.out).mono ?_
  rintro e w16 ⟨rfl, hw16⟩
  subst hw16
  go_wp2_with fail
  refine (diskWrite_to _ _ _ _ _ 2 ⟨20, [⟨#[97, 98, 99]⟩, ⟨#[100, 101, 102, 103]⟩], 2⟩ (by decide) rfl _ D14.out B14.out.size (by decide)).mono ?_
  rintro e w17 ⟨rfl, g17, d17, t17, n17⟩
  have B17 := hide (B14.out.trans (D14.out.below B14.out.size t17))
  have DT17 := hide (DT14.out.touch t17 Ap.out.symm)
  have Ap17 := hide (Ap.out.goes DT14.out n17)
  have D17 := hide d17
  clear d17 t17 n17 Ap D14 DT14 B14
  go_wp2_with fail
  refine (diskCut_to _ _ _ _ 1 12 _ (by decide) rfl _ DT17.out).mono ?_
  rintro e w18 ⟨rfl, d18, t18⟩
  have D18 := hide (D17.out.touch t18 Ap17.out)
  have B18 := hide (B17.out.trans (DT17.out.below B17.out.size t18))
  clear d18 t18 D17 DT17 B17 Ap17
  go_wp2_with fail
  refine (diskCut_to _ _ _ _ 1 0 ⟨20, [⟨#[97, 98, 99]⟩], 1⟩ (by decide) rfl _ D18.out).mono ?_
  rintro e w19 ⟨rfl, d19, t19⟩
  have B19 := hide (B18.out.trans (D18.out.below B18.out.size t19))
  have D19 := hide d19
  clear d19 t19 D18 B18
  go_wp2_with fail
  refine (diskLen_calls _ _ _ _ _ D19.out).mono ?_
  rintro e w20 ⟨rfl, hw20⟩
  subst hw20
  go_wp2
  go_ret
  exact ⟨rfl, B19.out⟩

end Go.Proofs.Ytheaifgoleklpaa
