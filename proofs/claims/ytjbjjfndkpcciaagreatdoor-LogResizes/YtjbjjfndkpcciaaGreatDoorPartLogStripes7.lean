/- Own work: the parts D7, S4, W10, W15, Plain, Words, Words2, RW, S5 of the proof, laid together. -/
import Derived.Test.YtjbjjfndkpcciaaGreatDoorPartLogStripes6
import Derived.Test.YtjbjjfndkpcciaaGreatDoorPartLogStripes5
import Derived.Test.YtjbjjfndkpcciaaGreatDoorPartLogStripes2
import Derived.Test.YtjbjjfndkpcciaaGreatDoorPartLogStripes3
/- The laws' known, over disks. Own work; no statement. -/
set_option linter.unusedSimpArgs false
set_option linter.unusedVariables false
namespace Go.Proofs.YtjbjjfndkpcciaaGreatDoor
open Go.RowKit Go.Shelf

theorem IsDisk.drews {w : World} {B p : Nat} {g : Option Nat} {D : DiskD} (h : IsDisk w B p g D) (n : Nat) : IsDisk (w.drewN n) B p g D := h.keep fun _ _ => rfl
/-- A disk's own changes lie from B on. -/
theorem IsDisk.below {w w' : World} {B p : Nat} {g : Option Nat} {D : DiskD} (h : IsDisk w B p g D) (hB : B ≤ w.heap.size) (t : Touch (onDisk p g) w w') : Below B w w' := t.below hB fun _ _ e => (h.on e).1

/-- Write, what it answers and makes named. -/
theorem diskWrite_to (B p : Nat) (g : Option Nat) (D : DiskD) (s : ByteArray) (c : Int) (D' : DiskD) (he : writeE D s = c) (hD : writeD D s = D') (w : World) (hd : IsDisk w B p g D) (hB : B ≤ w.heap.size) (hs : s.size ≤ 1099511627776) :
    Calls Tryz.prog 137 #[.pointer (some ⟨p, 0, none⟩), .string s] w fun e w' => e = .returned (.int .i64 c) ∧ ∃ g', IsDisk w' B p g' D' ∧ Touch (onDisk p g) w w' ∧ (∀ k, g' = some k → g = some k ∨ w.heap.size ≤ k) := by
  subst he
  subst hD
  exact diskWrite_calls B p g D s w hd hB hs
theorem diskCrash_to (B p : Nat) (g : Option Nat) (D : DiskD) (keep : Int) (D' : DiskD) (hD : crashD D keep = D') (w : World) (hd : IsDisk w B p g D) (hk0 : -9223372036854775808 ≤ keep) (hk1 : keep ≤ 9223372036854775807) :
    Calls Tryz.prog 46 #[.pointer (some ⟨p, 0, none⟩), .int .i64 keep] w fun e w' => e = .returned (.tuple #[]) ∧ IsDisk w' B p g D' ∧ Touch (onDisk p g) w w' := by
  subst hD
  exact diskCrash_calls B p g D keep w hd hk0 hk1
theorem diskCut_to (B p : Nat) (g : Option Nat) (D : DiskD) (n c : Int) (D' : DiskD) (he : cutE D n = c) (hD : cutD D n = D') (w : World) (hd : IsDisk w B p g D) :
    Calls Tryz.prog 129 #[.pointer (some ⟨p, 0, none⟩), .int .i64 n] w fun e w' => e = .returned (.int .i64 c) ∧ IsDisk w' B p g D' ∧ Touch (onDisk p g) w w' := by
  subst he
  subst hD
  exact diskCut_calls B p g D n w hd

theorem diskLen_to (B p : Nat) (g : Option Nat) (D : DiskD) (c : Int) (hc : (D.lines.length : Int) = c) (w : World) (hd : IsDisk w B p g D) :
    Calls Tryz.prog 128 #[.pointer (some ⟨p, 0, none⟩)] w fun e w' => e = .returned (.int .i64 c) ∧ w' = w := by
  subst hc
  exact diskLen_calls B p g D w hd
theorem diskWaits_to (B p : Nat) (g : Option Nat) (D : DiskD) (c : Int) (hc : (D.lines.length : Int) - (D.lasts : Int) = c) (w : World) (hd : IsDisk w B p g D) :
    Calls Tryz.prog 67 #[.pointer (some ⟨p, 0, none⟩)] w fun e w' => e = .returned (.int .i64 c) ∧ ∃ n, w' = w.drewN n := by
  subst hc
  exact diskWaits_calls B p g D w hd
theorem diskSync_to (B p : Nat) (g : Option Nat) (D : DiskD) (m : Nat) (hm : D.lines.length = m) (w : World) (hd : IsDisk w B p g D) :
    Calls Tryz.prog 68 #[.pointer (some ⟨p, 0, none⟩)] w fun e w' => e = .returned (.tuple #[]) ∧ IsDisk w' B p g ⟨D.room, D.lines, m⟩ ∧ Touch (onDisk p g) w w' := by
  subst hm
  exact diskSync_calls B p g D w hd

/-- Two disks that lie apart. -/
def Apart (p : Nat) (g : Option Nat) (p' : Nat) (g' : Option Nat) : Prop := ∀ k, onDisk p g k → ¬ onDisk p' g' k
theorem Apart.symm {p p' : Nat} {g g' : Option Nat} (h : Apart p g p' g') : Apart p' g' p g := fun k h1 h2 => h k h2 h1
/-- A new one lies apart from an elder one. -/
theorem apart_new {w w' : World} {B B' p p' : Nat} {g g' : Option Nat} {D D' : DiskD} (h : IsDisk w B p g D) (h' : IsDisk w' B' p' g' D') (hB : w.heap.size ≤ B') : Apart p g p' g' := fun k h1 h2 => by
  have := (h.on h1).2
  have := (h'.on h2).1
  omega
/-- One that goes on apart from another one stays so. -/
theorem Apart.goes {w : World} {B p p' : Nat} {g g1 g' : Option Nat} {D : DiskD} (h : Apart p g p' g') (hd : IsDisk w B p' g' D) (hg : ∀ k, g1 = some k → g = some k ∨ w.heap.size ≤ k) : Apart p g1 p' g' := fun k h1 h2 => by
  rcases h1 with rfl | e
  · exact h k (.inl rfl) h2
  · rcases hg k e with e' | e'
    · exact h k (.inr e') h2
    · have := (hd.on h2).2
      omega

end Go.Proofs.YtjbjjfndkpcciaaGreatDoor

/- seg's small functions: isEpoch, owned; structs of seven cells. Own work; no statement. -/
set_option linter.unusedSimpArgs false
set_option linter.unusedVariables false
namespace Go.Proofs.YtjbjjfndkpcciaaGreatDoor
open Go.RowKit Go.Shelf Go.Sort

theorem cells5 {W : World} {b : Nat} {x0 x1 x2 x3 x4 : Value} {t : TypeId} (h : W.heap[b]? = some (.cells #[x0, x1, x2, x3, x4] t (0, 0))) :
    W.cell? ⟨b, 0, none⟩ = some x0 ∧ W.cell? ⟨b, 1, none⟩ = some x1 ∧ W.cell? ⟨b, 2, none⟩ = some x2 ∧ W.cell? ⟨b, 3, none⟩ = some x3 ∧ W.cell? ⟨b, 4, none⟩ = some x4 ∧
    W.frozen? ⟨b, 0, none⟩ = false ∧ W.frozen? ⟨b, 1, none⟩ = false ∧ W.frozen? ⟨b, 2, none⟩ = false ∧ W.frozen? ⟨b, 3, none⟩ = false ∧ W.frozen? ⟨b, 4, none⟩ = false :=
  ⟨by simpa using cellsAt h 0, by simpa using cellsAt h 1, by simpa using cellsAt h 2, by simpa using cellsAt h 3, by simpa using cellsAt h 4, frozenAt h _, frozenAt h _, frozenAt h _, frozenAt h _, frozenAt h _⟩
theorem cells7 {W : World} {b : Nat} {x0 x1 x2 x3 x4 x5 x6 : Value} {t : TypeId} (h : W.heap[b]? = some (.cells #[x0, x1, x2, x3, x4, x5, x6] t (0, 0))) :
    W.cell? ⟨b, 0, none⟩ = some x0 ∧ W.cell? ⟨b, 1, none⟩ = some x1 ∧ W.cell? ⟨b, 2, none⟩ = some x2 ∧ W.cell? ⟨b, 3, none⟩ = some x3 ∧ W.cell? ⟨b, 4, none⟩ = some x4 ∧ W.cell? ⟨b, 5, none⟩ = some x5 ∧ W.cell? ⟨b, 6, none⟩ = some x6 ∧
    W.frozen? ⟨b, 0, none⟩ = false ∧ W.frozen? ⟨b, 1, none⟩ = false ∧ W.frozen? ⟨b, 2, none⟩ = false ∧ W.frozen? ⟨b, 3, none⟩ = false ∧ W.frozen? ⟨b, 4, none⟩ = false ∧ W.frozen? ⟨b, 5, none⟩ = false ∧ W.frozen? ⟨b, 6, none⟩ = false :=
  ⟨by simpa using cellsAt h 0, by simpa using cellsAt h 1, by simpa using cellsAt h 2, by simpa using cellsAt h 3, by simpa using cellsAt h 4, by simpa using cellsAt h 5, by simpa using cellsAt h 6, frozenAt h _, frozenAt h _, frozenAt h _, frozenAt h _, frozenAt h _, frozenAt h _, frozenAt h _⟩

/-- A struct of seven cells, stored whole. -/
def put7 (W : World) (b : Nat) (v0 v1 v2 v3 v4 v5 v6 : Value) : World := ((put5 W b v0 v1 v2 v3 v4).setCell ⟨b, 5, none⟩ v5).setCell ⟨b, 6, none⟩ v6
theorem put7_heap {W : World} {b : Nat} {x0 x1 x2 x3 x4 x5 x6 : Value} {t : TypeId} {f : Nat × Nat} (h : W.heap[b]? = some (.cells #[x0, x1, x2, x3, x4, x5, x6] t f)) (v0 v1 v2 v3 v4 v5 v6 : Value) :
    (put7 W b v0 v1 v2 v3 v4 v5 v6).heap[b]? = some (.cells #[v0, v1, v2, v3, v4, v5, v6] t f) := by
  have := set1 (j := 6) (set1 (j := 5) (set1 (j := 4) (set1 (j := 3) (set1 (j := 2) (set1 (j := 1) (set1 (j := 0) h v0) v1) v2) v3) v4) v5) v6
  simpa [put7, put5] using this
theorem put7_below {B b : Nat} {w W : World} (h : Below B w W) (hb : B ≤ b) (v0 v1 v2 v3 v4 v5 v6 : Value) : Below B w (put7 W b v0 v1 v2 v3 v4 v5 v6) :=
  ((put5_below h hb v0 v1 v2 v3 v4).setCell (p := ⟨b, 5, none⟩) hb v5).setCell (p := ⟨b, 6, none⟩) hb v6
theorem put7_other {b : Nat} {W : World} (k : Nat) (h : k ≠ b) (v0 v1 v2 v3 v4 v5 v6 : Value) : (put7 W b v0 v1 v2 v3 v4 v5 v6).heap[k]? = W.heap[k]? := by
  unfold put7
  rw [Below.heap_setCell _ ⟨b, 6, none⟩ _ k h, Below.heap_setCell _ ⟨b, 5, none⟩ _ k h, put5_other k h]

set_option maxHeartbeats 400000 in
theorem isEpoch_calls (n : Int) (w : World) : Calls Tryz.prog 118 #[.int .i64 n] w fun e w' => e = .returned (.bool (decide (1 ≤ n ∧ n ≤ 2147483647))) ∧ w' = w := by
  by_cases h0 : 1 ≤ n
  · by_cases h1 : n ≤ 2147483647
    · rw [decide_eq_true ⟨h0, h1⟩]
      go_enter Tryz.func118, Tryz.ntmps118
      go_wp2
      go_ret
      exact ⟨by simp [h1], rfl⟩
    · rw [decide_eq_false (fun h => h1 h.2)]
      go_enter Tryz.func118, Tryz.ntmps118
      go_wp2
      go_ret
      exact ⟨by simp [h1], rfl⟩
  · rw [decide_eq_false (fun h => h0 h.1)]
    go_enter Tryz.func118, Tryz.ntmps118
    go_wp2
    go_ret
    exact ⟨by simp [h0], rfl⟩

set_option maxHeartbeats 4000000 in
set_option maxRecDepth 100000 in
theorem owned_calls (v : Value) (r : RecD) (w : World) (hv : IsRec w v r) (hl : r.dep.length ≤ 17592186044416) (hk : r.key.size ≤ 1099511627776) (hvl : r.val.size ≤ 1099511627776) :
    Calls Tryz.prog 122 #[v] w fun e w' => ∃ v', e = .returned v' ∧ OwnRec w.heap.size w' v' r ∧ Below w.heap.size w w' := by
  obtain ⟨site, seq, dep, key, val⟩ := r
  obtain ⟨a, cap, rfl, hn⟩ := hv
  dsimp only at *
  obtain ⟨W0, hW0⟩ : ∃ W0, (w.alloc (.cells #[.int .i64 site, .int .i64 seq, .slice a dep.length cap, .string key, .string val] 36)).alloc (.cells #[.int .i64 0, .int .i64 0, .slice none 0 0, .string ⟨#[]⟩, .string ⟨#[]⟩] 36) = W0 := ⟨_, rfl⟩
  have hB : Below w.heap.size w W0 := by rw [← hW0]; exact (box_below w _).alloc (by simp) _
  have hsz : w.heap.size + 2 ≤ W0.heap.size := by rw [← hW0]; simp
  have h0 : W0.heap[w.heap.size]? = some (.cells #[.int .i64 site, .int .i64 seq, .slice a dep.length cap, .string key, .string val] 36 (0, 0)) := by
    rw [← hW0]; exact (Below.heap_alloc _ _ _ (by simp)).trans (World.alloc_heap_new w _)
  have h1 : W0.heap[w.heap.size + 1]? = some (.cells #[.int .i64 0, .int .i64 0, .slice none 0 0, .string ⟨#[]⟩, .string ⟨#[]⟩] 36 (0, 0)) := by
    have := World.alloc_heap_new (w.alloc (.cells #[.int .i64 site, .int .i64 seq, .slice a dep.length cap, .string key, .string val] 36)) (.cells #[.int .i64 0, .int .i64 0, .slice none 0 0, .string ⟨#[]⟩, .string ⟨#[]⟩] 36)
    rw [hW0, World.size_alloc] at this
    exact this
  have q4 := hide (fun w => clone_calls key w hk)
  have q5 := hide (fun w => clone_calls val w hvl)
  have X := hide h0
  have Z := hide h1
  have HN := hide hn
  have HW := hide hW0
  clear hW0 hn h0 h1
  go_enter Tryz.func122, Tryz.ntmps122
  go_wp2_with fail
  rw [HW.out]
  clear HW
  replace X := hide (show W0.drew.heap[w.heap.size]? = _ from X.out)
  replace Z := hide (show W0.drew.heap[w.heap.size + 1]? = _ from Z.out)
  replace hB := hB.drew
  have c3 := (cells5 X.out).2.2.2.1
  have c4 := (cells5 X.out).2.2.2.2.1
  have f3 := frozenAt X.out 3
  have f4 := frozenAt X.out 4
  go_region_with (first | (go_at_call_of 174 (Value.string key); refine (q4.out _).mono ?_; rintro e w' ⟨rfl, hb⟩; replace X := hide (keepB X.out hb); replace Z := hide (keepB Z.out hb); replace hB := hB.trans (hb.mono hB.size); have c3 := (cells5 X.out).2.2.2.1; have c4 := (cells5 X.out).2.2.2.2.1; have f3 := frozenAt X.out 3; have f4 := frozenAt X.out 4) | (go_at_call_of 174 (Value.string val); refine (q5.out _).mono ?_; rintro e w' ⟨rfl, hb⟩; replace X := hide (keepB X.out hb); replace Z := hide (keepB Z.out hb); replace hB := hB.trans (hb.mono hB.size); have c3 := (cells5 X.out).2.2.2.1; have c4 := (cells5 X.out).2.2.2.2.1; have f3 := frozenAt X.out 3; have f4 := frozenAt X.out 4))
  all_goals
    have X1 : ((w'.setCell ⟨w.heap.size, 3, none⟩ (.string key)).setCell ⟨w.heap.size, 4, none⟩ (.string val)).heap[w.heap.size]? = some (.cells #[.int .i64 site, .int .i64 seq, .slice a dep.length cap, .string key, .string val] 36 (0, 0)) := by
      simpa using set1 (j := 4) (set1 (j := 3) X.out (.string key)) (.string val)
    have Z1 := (Below.heap_setCell (w'.setCell ⟨w.heap.size, 3, none⟩ (.string key)) ⟨w.heap.size, 4, none⟩ (.string val) (w.heap.size + 1) (by simp)).trans ((Below.heap_setCell w' ⟨w.heap.size, 3, none⟩ (.string key) (w.heap.size + 1) (by simp)).trans Z.out)
    have B1 := (hB.setCell (p := ⟨w.heap.size, 3, none⟩) (Nat.le_refl _) (.string key)).setCell (p := ⟨w.heap.size, 4, none⟩) (Nat.le_refl _) (.string val)
    obtain ⟨W1, hW1⟩ : ∃ W1, (w'.setCell ⟨w.heap.size, 3, none⟩ (.string key)).setCell ⟨w.heap.size, 4, none⟩ (.string val) = W1 := ⟨_, rfl⟩
    rw [hW1] at X1 Z1 B1
    rw [hW1]
    have C := hide (segCopied_calls (.agg #[.int .i64 site, .int .i64 seq, .slice a dep.length cap, .string key, .string val]) ⟨site, seq, dep, key, val⟩ W1 ⟨a, cap, rfl, HN.out.below B1⟩ hl)
    clear hW1 hB X Z c3 c4 f3 f4
    obtain ⟨x0, x1, x2, x3, x4, -, -, -, -, -⟩ := cells5 X1
    have HX := hide X1
    have HZ := hide Z1
    have HS := hide (ltAt Z1)
    clear X1 Z1
    go_wp2_with fail
    refine C.out.mono ?_
    rintro e w2 ⟨v2, rfl, ⟨vd, rfl, hown⟩, hb2⟩
    dsimp only at *
    have Z2 := keepB HZ.out hb2
    have B2 := B1.trans (hb2.mono B1.size)
    obtain ⟨z0, z1, z2, z3, z4, g0, g1, g2, g3, g4⟩ := cells5 Z2
    obtain ⟨a', cap', rfl⟩ := ownsRow_slice hown
    have Hown := hide hown
    have HZ2 := hide Z2
    clear C x0 x1 x2 x3 x4 HX HZ hb2 Z2 hown
    go_wp2
    obtain ⟨W2, hW2⟩ : ∃ W2, put5 w2 (w.heap.size + 1) (.int .i64 site) (.int .i64 seq) (.slice a' dep.length cap') (.string key) (.string val) = W2 := ⟨_, rfl⟩
    have e2 := put5_heap HZ2.out (.int .i64 site) (.int .i64 seq) (.slice a' dep.length cap') (.string key) (.string val)
    have hB2 := put5_below B2 (show w.heap.size ≤ w.heap.size + 1 by omega) (.int .i64 site) (.int .i64 seq) (.slice a' dep.length cap') (.string key) (.string val)
    have hoth : ∀ k, k ≠ w.heap.size + 1 → W2.heap[k]? = w2.heap[k]? := fun k hk => by rw [← hW2]; exact put5_other k hk _ _ _ _ _
    rw [hW2] at e2 hB2
    unfold put5 at hW2
    rw [hW2]
    clear hW2 z0 z1 z2 z3 z4 g0 g1 g2 g3 g4
    obtain ⟨k0, k1, k2, k3, k4, -, -, -, -, -⟩ := cells5 e2
    refine bodyPost_ret (v := .agg #[.int .i64 site, .int .i64 seq, .slice a' dep.length cap', .string key, .string val]) (by simp [results, Tryz.f122, go_sem, k0, k1, k2, k3, k4]) rfl ⟨_, rfl, ⟨_, rfl, ?_⟩, hB2⟩
    have hs := HS.out
    exact ownsRow_low (ownsRow_of_heap Hown.out fun k hk => hoth k (by have := (Hown.out.lt k hk).1; omega)) (by omega)

end Go.Proofs.YtjbjjfndkpcciaaGreatDoor

/- The laws' Pairs: what a range over pairs of numbers tells. Own work; no statement. -/
set_option linter.unusedSimpArgs false
set_option linter.unusedVariables false
namespace Go.Proofs.YtjbjjfndkpcciaaGreatDoor
open Go.RowKit Go.Shelf

attribute [local go_sem] Oper.semAt_some
end Go.Proofs.YtjbjjfndkpcciaaGreatDoor

/- The laws' known(): two vectors, joined, met, in words: it answers true in whatever world that has the library's table of powers of ten. Own work; no statement. -/
set_option linter.unusedSimpArgs false
set_option linter.unusedVariables false
namespace Go.Proofs.YtjbjjfndkpcciaaGreatDoor
open Go.RowKit Go.Shelf

theorem itoa_digit (n : Int) (h0 : 0 ≤ n) (h1 : n < 10) : Lib.itoa n = [UInt8.ofNat (48 + n.toNat)] := by
  unfold Lib.itoa
  rw [if_neg (by omega), Lib.decDigits, dif_pos (by omega)]

theorem kJoin : bySiteL max [3, 0, 2] [1, 5] = [3, 5, 2] := by decide
theorem kMeet : bySiteL min [3, 0, 2] [1, 5] = [1, 0, 0] := by decide
theorem kText1 : textL [3, 5, 2] = [91, 51, 32, 53, 32, 50, 93] := by
  have : writtenL [3, 5, 2] = 3 := by decide
  simp [textL, this, numsTo, itoa_digit]
theorem kText2 : textL [1, 0, 0] = [91, 49, 93] := by
  have : writtenL [1, 0, 0] = 1 := by decide
  simp [textL, this, numsTo, itoa_digit]
theorem kText3 : textL [] = [91, 93] := by decide
theorem kWith : withL [1, 5] 3 7 = [1, 5, 0, 7] := by decide
theorem kText4 : textL [1, 5, 0, 7] = [91, 49, 32, 53, 32, 48, 32, 55, 93] := by
  have : writtenL [1, 5, 0, 7] = 4 := by decide
  simp [textL, this, numsTo, itoa_digit]
theorem kParse1 : parseL [91, 51, 32, 48, 32, 50, 93] = ([3, 0, 2], 0) := by decide +kernel
theorem kParse2 : parseL [91, 51, 32, 48, 93] = ([], 2) := by decide +kernel
theorem kPairs1 : (pairsTo [3, 0, 2] ([3, 0, 2] : List Int).length).map (·.1) = [0, 2] := by decide
theorem kPairs2 : (pairsTo [3, 0, 2] ([3, 0, 2] : List Int).length).map (·.2) = [3, 2] := by decide
theorem kSame : everyB eqB [3, 0, 2] [3, 0, 2] = true := by decide
theorem kCov1 : everyB covB [3, 5, 2] [3, 0, 2] = true := by decide
theorem kCov2 : everyB covB [3, 0, 2] [1, 5] = false := by decide
theorem kGet : geti [3, 0, 2] 9 = 0 := by decide
theorem kSum : ([3, 0, 2] : List Int).sum = 5 := by decide
theorem kCheck1 : checkL [3, 0, 2] 2 = 4 := by decide
theorem kCheck2 : checkL [3, 0, 2] 3 = 0 := by decide

theorem alloc_below (w : World) (o : Obj) : Below w.heap.size w (w.alloc o) := (Below.refl _ w).alloc (Nat.le_refl _) o
theorem lit_nums (w : World) (x y : Int) : IsNums .i64 (w.alloc (.cells #[.int .i64 x, .int .i64 y] 3)) (.slice (some ⟨w.heap.size, 0, none⟩) 2 2) [x, y] :=
  IsNums.of_row (base := 0) (World.ownsRow_lit (e := 3) (size := 1) w #[.int .i64 x, .int .i64 y] 2 (Nat.zero_le _) (by unfold maxLen; omega) rfl)

theorem small_inR {l : List Int} (h : ∀ x ∈ l, 0 ≤ x ∧ x ≤ 1048577) : InR l := fun x hx => by have := h x hx; omega

end Go.Proofs.YtjbjjfndkpcciaaGreatDoor

/- Plain laws on vectors as lists of numbers. Own work; no statement. -/
set_option linter.unusedSimpArgs false
set_option linter.unusedVariables false
namespace Go.Proofs.YtjbjjfndkpcciaaGreatDoor

theorem getD_out (l : List Int) (i : Nat) (h : l.length ≤ i) : l.getD i 0 = 0 := by
  rw [List.getD, List.getElem?_eq_none h]; rfl
theorem getD_in (l : List Int) (i : Nat) (h : i < l.length) : l.getD i 0 = l[i] := by
  rw [List.getD, List.getElem?_eq_getElem h]; rfl
theorem getD_mem (l : List Int) (i : Nat) (h : i < l.length) : l.getD i 0 ∈ l := by rw [getD_in l i h]; exact List.getElem_mem h

theorem every_iff {f : Int → Int → Bool} (h0 : f 0 0 = true) (a b : List Int) : everyB f a b = true ↔ ∀ i, f (a.getD i 0) (b.getD i 0) = true := by
  constructor
  · intro h i
    unfold everyB at h
    rw [List.all_eq_true] at h
    by_cases hi : i < max a.length b.length
    · exact h i (by simpa using hi)
    · rw [getD_out a i (by omega), getD_out b i (by omega)]; exact h0
  · intro h
    exact everyB_yes f a b (fun i _ => h i)
theorem cov_iff (a b : List Int) : everyB covB a b = true ↔ ∀ i, b.getD i 0 ≤ a.getD i 0 := by
  rw [every_iff (by decide)]; simp only [covB, decide_eq_true_eq]
theorem same_iff (a b : List Int) : everyB eqB a b = true ↔ ∀ i, a.getD i 0 = b.getD i 0 := by
  rw [every_iff (by decide)]; simp only [eqB, beq_iff_eq]
theorem site_get {f : Int → Int → Int} (h0 : f 0 0 = 0) (a b : List Int) (i : Nat) : (bySiteL f a b).getD i 0 = f (a.getD i 0) (b.getD i 0) := by
  by_cases hi : i < max a.length b.length
  · rw [getD_in _ i (by rw [bySiteL_length]; exact hi)]; simp [bySiteL]
  · rw [getD_out _ i (by rw [bySiteL_length]; omega), getD_out a i (by omega), getD_out b i (by omega), h0]
theorem join_get (a b : List Int) (i : Nat) : (bySiteL max a b).getD i 0 = max (a.getD i 0) (b.getD i 0) := site_get (by decide) a b i
theorem meet_get (a b : List Int) (i : Nat) : (bySiteL min a b).getD i 0 = min (a.getD i 0) (b.getD i 0) := site_get (by decide) a b i

theorem cov_join_l (x y : List Int) : everyB covB (bySiteL max x y) x = true := by rw [cov_iff]; intro i; rw [join_get]; omega
theorem cov_join_r (x y : List Int) : everyB covB (bySiteL max x y) y = true := by rw [cov_iff]; intro i; rw [join_get]; omega
theorem cov_meet_l (x y : List Int) : everyB covB x (bySiteL min x y) = true := by rw [cov_iff]; intro i; rw [meet_get]; omega
theorem cov_meet_r (x y : List Int) : everyB covB y (bySiteL min x y) = true := by rw [cov_iff]; intro i; rw [meet_get]; omega
theorem cov_lub {x y z : List Int} (h1 : everyB covB z x = true) (h2 : everyB covB z y = true) : everyB covB z (bySiteL max x y) = true := by
  rw [cov_iff] at *; intro i; rw [join_get]; have := h1 i; have := h2 i; omega
theorem cov_glb {x y z : List Int} (h1 : everyB covB x z = true) (h2 : everyB covB y z = true) : everyB covB (bySiteL min x y) z = true := by
  rw [cov_iff] at *; intro i; rw [meet_get]; have := h1 i; have := h2 i; omega
theorem join_assoc (x y z : List Int) : everyB eqB (bySiteL max x (bySiteL max y z)) (bySiteL max (bySiteL max x y) z) = true := by
  rw [same_iff]; intro i; rw [join_get, join_get, join_get, join_get]; omega
theorem same_cov (x y : List Int) : everyB eqB x y = (everyB covB x y && everyB covB y x) := by
  rw [Bool.eq_iff_iff, Bool.and_eq_true, same_iff, cov_iff, cov_iff]
  constructor
  · intro h; exact ⟨fun i => by have := h i; omega, fun i => by have := h i; omega⟩
  · intro h i; have := h.1 i; have := h.2 i; omega

/-- The first n numbers together. -/
def sumTo (f : Nat → Int) : Nat → Int
  | 0 => 0
  | n + 1 => sumTo f n + f n
theorem sumTo_congr {f g : Nat → Int} (h : ∀ i, f i = g i) : ∀ n, sumTo f n = sumTo g n
  | 0 => rfl
  | n + 1 => by simp only [sumTo]; rw [sumTo_congr h n, h n]
theorem sumTo_add (f g : Nat → Int) : ∀ n, sumTo f n + sumTo g n = sumTo (fun i => f i + g i) n
  | 0 => rfl
  | n + 1 => by simp only [sumTo]; rw [← sumTo_add f g n]; omega
theorem sumTo_take (l : List Int) : ∀ n, n ≤ l.length → sumTo (fun i => l.getD i 0) n = (l.take n).sum
  | 0, _ => by simp [sumTo]
  | n + 1, h => by
    rw [take_snoc_getD l n (by omega), List.sum_append, ← sumTo_take l n (by omega)]
    simp [sumTo]
theorem sumTo_more (l : List Int) (k : Nat) : sumTo (fun i => l.getD i 0) (l.length + k) = l.sum := by
  induction k with
  | zero => rw [Nat.add_zero, sumTo_take l _ (Nat.le_refl _), List.take_of_length_le (Nat.le_refl _)]
  | succ k ih => rw [← Nat.add_assoc, sumTo, ih, getD_out l _ (by omega)]; omega
theorem sum_eq (l : List Int) (n : Nat) (h : l.length ≤ n) : l.sum = sumTo (fun i => l.getD i 0) n := by
  have := sumTo_more l (n - l.length)
  rw [← this]
  congr 1
  omega
theorem sum_join_meet (x y : List Int) : (bySiteL max x y).sum + (bySiteL min x y).sum = x.sum + y.sum := by
  have n := max x.length y.length
  rw [sum_eq (bySiteL max x y) (max x.length y.length) (by rw [bySiteL_length]; exact Nat.le_refl _), sum_eq (bySiteL min x y) (max x.length y.length) (by rw [bySiteL_length]; exact Nat.le_refl _),
    sum_eq x (max x.length y.length) (by omega), sum_eq y (max x.length y.length) (by omega), sumTo_add, sumTo_add]
  exact sumTo_congr (fun i => by rw [join_get, meet_get]; omega) _

/-- All numbers between 0 and m. -/
def InB (m : Int) (l : List Int) : Prop := ∀ x ∈ l, 0 ≤ x ∧ x ≤ m
theorem InB.get {m : Int} {l : List Int} (h : InB m l) (hm : 0 ≤ m) (i : Nat) : 0 ≤ l.getD i 0 ∧ l.getD i 0 ≤ m := by
  by_cases hi : i < l.length
  · exact h _ (getD_mem l i hi)
  · rw [getD_out l i (by omega)]; exact ⟨Int.le_refl _, hm⟩
theorem InB.site {m : Int} {f : Int → Int → Int} (hf : ∀ a b, 0 ≤ a ∧ a ≤ m → 0 ≤ b ∧ b ≤ m → 0 ≤ f a b ∧ f a b ≤ m) {a b : List Int} (ha : InB m a) (hb : InB m b) (hm : 0 ≤ m) : InB m (bySiteL f a b) := by
  intro x hx
  simp only [bySiteL, List.mem_map] at hx
  obtain ⟨i, _, rfl⟩ := hx
  exact hf _ _ (ha.get hm i) (hb.get hm i)
theorem InB.join {m : Int} {a b : List Int} (ha : InB m a) (hb : InB m b) (hm : 0 ≤ m) : InB m (bySiteL max a b) := ha.site (fun x y h1 h2 => by omega) hb hm
theorem InB.meet {m : Int} {a b : List Int} (ha : InB m a) (hb : InB m b) (hm : 0 ≤ m) : InB m (bySiteL min a b) := ha.site (fun x y h1 h2 => by omega) hb hm
theorem InB.mono {m m' : Int} {l : List Int} (h : InB m l) (hm : m ≤ m') : InB m' l := fun x hx => by have := h x hx; omega
theorem InB.sum {m : Int} {l : List Int} (h : InB m l) : 0 ≤ l.sum ∧ l.sum ≤ m * l.length := by
  induction l with
  | nil => simp
  | cons x l ih =>
    have h1 := h x (by simp)
    have h2 := ih (fun y hy => h y (by simp [hy]))
    rw [List.sum_cons, List.length_cons, Int.natCast_add, Int.mul_add]
    omega

end Go.Proofs.YtjbjjfndkpcciaaGreatDoor

/- Plain laws on vectors in words: what is told is read again. Own work; no statement. -/
set_option linter.unusedSimpArgs false
set_option linter.unusedVariables false
namespace Go.Proofs.YtjbjjfndkpcciaaGreatDoor

theorem digit_val (d : Nat) (h : d < 10) : (UInt8.ofNat (48 + d)).toNat = 48 + d := by
  rw [UInt8.toNat_ofNat']; omega
theorem decDigits_all (u : Nat) : ∀ c ∈ Lib.decDigits u, digB c = true := by
  induction u using Nat.strongRecOn with
  | _ u ih =>
    rw [Lib.decDigits]
    split
    · intro c hc
      rw [List.mem_singleton] at hc
      subst hc
      unfold digB
      rw [digit_val u (by omega)]
      simp; omega
    · intro c hc
      rcases List.mem_append.1 hc with h | h
      · exact ih (u / 10) (by omega) c h
      · rw [List.mem_singleton] at h
        subst h
        unfold digB
        rw [digit_val (u % 10) (by omega)]
        simp; omega
theorem decDigits_ne (u : Nat) : Lib.decDigits u ≠ [] := by
  rw [Lib.decDigits]; split <;> simp
theorem decDigits_head (u : Nat) : u ≠ 0 → (Lib.decDigits u).head? ≠ some 48 := by
  induction u using Nat.strongRecOn with
  | _ u ih =>
    intro h0
    rw [Lib.decDigits]
    split
    · rename_i h
      intro e
      have e2 : UInt8.ofNat (48 + u) = 48 := by simpa using e
      have e3 := congrArg UInt8.toNat e2
      rw [digit_val u h] at e3
      have e4 : (48 : UInt8).toNat = 48 := rfl
      omega
    · have h1 := ih (u / 10) (by omega) (by omega)
      cases h : Lib.decDigits (u / 10) with
      | nil => exact absurd h (decDigits_ne _)
      | cons c r => rw [h] at h1; exact h1
theorem decOk_digits (u : Nat) : decOk (Lib.decDigits u) = true := by
  unfold decOk
  have h1 : (Lib.decDigits u).isEmpty = false := by
    cases h : Lib.decDigits u with
    | nil => exact absurd h (decDigits_ne u)
    | cons _ _ => rfl
  have h2 : (Lib.decDigits u).all digB = true := List.all_eq_true.2 (decDigits_all u)
  rw [h1, h2]
  by_cases h0 : u = 0
  · subst h0
    have : Lib.decDigits 0 = [48] := by rw [Lib.decDigits]; rfl
    rw [this]; rfl
  · have := decDigits_head u h0
    have h3 : ((Lib.decDigits u).head? == some 48) = false := by simpa using this
    rw [h3]; simp
theorem decTo_digits (u : Nat) : decTo (Lib.decDigits u) 0 = min (u : Int) 1048577 := by
  induction u using Nat.strongRecOn with
  | _ u ih =>
    rw [Lib.decDigits]
    split
    · rename_i h
      simp only [decTo]
      rw [digit_val u h]
      omega
    · rw [decTo_snoc, ih (u / 10) (by omega), digit_val (u % 10) (by omega)]
      omega
theorem itoa_nat (x : Int) (h : 0 ≤ x) : Lib.itoa x = Lib.decDigits x.toNat := by unfold Lib.itoa; rw [if_neg (by omega)]
theorem no_blank (u : Nat) : ∀ c ∈ Lib.decDigits u, c ≠ 32 := by
  intro c hc e
  have := decDigits_all u c hc
  subst e
  revert this
  decide

theorem splitL_word : ∀ (l : List UInt8), (∀ c ∈ l, c ≠ 32) → splitL l = [l]
  | [], _ => rfl
  | c :: r, h => by
    simp only [splitL]
    rw [if_neg (h c (by simp)), splitL_word r (fun d hd => h d (by simp [hd]))]
theorem splitL_append : ∀ (a b : List UInt8), splitL (a ++ 32 :: b) = splitL a ++ splitL b
  | [], b => by simp [splitL]
  | c :: r, b => by
    simp only [List.cons_append, splitL]
    rw [splitL_append r b]
    split
    · simp
    · cases h : splitL r with
      | nil => exact absurd h (splitL_ne r)
      | cons x xs => simp

/-- The numbers are such as a vector may have. -/
def InS (l : List Int) : Prop := ∀ x ∈ l, 0 ≤ x ∧ x ≤ 1048576
theorem getD_inS {l : List Int} (h : InS l) (k : Nat) : 0 ≤ l.getD k 0 ∧ l.getD k 0 ≤ 1048576 := by
  by_cases hk : k < l.length
  · exact h _ (getD_mem l k hk)
  · rw [getD_out l k (by omega)]; omega
def wordsTo (l : List Int) (k : Nat) : List (List UInt8) := (List.range k).map fun i => Lib.itoa (l.getD i 0)
theorem wordsTo_succ (l : List Int) (k : Nat) : wordsTo l (k + 1) = wordsTo l k ++ [Lib.itoa (l.getD k 0)] := by simp [wordsTo, List.range_succ]
theorem split_nums {l : List Int} (h : InS l) : ∀ k, splitL (numsTo l (k + 1)) = wordsTo l (k + 1)
  | 0 => by
    simp only [numsTo]
    rw [itoa_nat _ (getD_inS h 0).1]
    simp only [if_true, List.nil_append]
    rw [splitL_word _ (no_blank _), wordsTo_succ, itoa_nat _ (getD_inS h 0).1]
    rfl
  | k + 1 => by
    rw [numsTo, if_neg (by omega)]
    simp only [List.cons_append, List.nil_append]
    rw [splitL_append, split_nums h k, wordsTo_succ l (k + 1), itoa_nat _ (getD_inS h (k + 1)).1, splitL_word _ (no_blank _)]
theorem words_ok {l : List Int} (h : InS l) (k : Nat) : (wordsTo l k).all decOk = true := by
  rw [List.all_eq_true]
  intro x hx
  obtain ⟨i, -, rfl⟩ := List.mem_map.1 hx
  rw [itoa_nat _ (getD_inS h i).1]
  exact decOk_digits _
theorem dec_itoa {x : Int} (h0 : 0 ≤ x) (h1 : x ≤ 1048577) : decTo (Lib.itoa x) 0 = x := by
  rw [itoa_nat _ h0, decTo_digits]; omega
theorem st_words {l : List Int} (h : InS l) (h8 : l.length ≤ 8) : ∀ k, k < l.length → stOf (wordsTo l (k + 1)) = (l.take (k + 1), l.getD k 0, false)
  | 0, hk => by
    have hx := getD_inS h 0
    rw [wordsTo_succ, stOf_snoc, take_snoc_getD l 0 hk]
    simp only [wordsTo, List.range_zero, List.map_nil, stOf, List.foldl_nil, stepW, dec_itoa hx.1 (by omega : l.getD 0 0 ≤ 1048577)]
    rw [if_neg (by rintro (h | h); · omega
                   · simp at h)]
    simp
  | k + 1, hk => by
    have hx := getD_inS h (k + 1)
    rw [wordsTo_succ, stOf_snoc, st_words h h8 k (by omega), take_snoc_getD l (k + 1) hk]
    simp only [stepW, dec_itoa hx.1 (by omega : l.getD (k + 1) 0 ≤ 1048577)]
    rw [if_neg (by rw [List.length_take]; omega)]

theorem writtenL_last (l : List Int) : ∀ k, writtenL l = k + 1 → l.getD k 0 ≠ 0 := by
  obtain ⟨r, rfl⟩ : ∃ r : List Int, l = r.reverse := ⟨l.reverse, by simp⟩
  induction r with
  | nil => intro k h; simp [writtenL] at h
  | cons x r ih =>
    intro k h
    rw [List.reverse_cons] at h ⊢
    generalize r.reverse = l at ih h ⊢
    by_cases hx : x = 0
    · subst hx
      rw [writtenL_snoc_zero] at h
      have hl := writtenL_le l
      have := ih k h
      rw [List.getD, List.getElem?_append_left (by omega)]
      exact this
    · rw [writtenL_snoc l x hx] at h
      obtain rfl : k = l.length := by omega
      rw [List.getD, List.getElem?_append_right (Nat.le_refl _)]
      simpa using hx
theorem writtenL_past (l : List Int) : ∀ i, writtenL l ≤ i → l.getD i 0 = 0 := by
  obtain ⟨r, rfl⟩ : ∃ r : List Int, l = r.reverse := ⟨l.reverse, by simp⟩
  induction r with
  | nil => intro i _; exact getD_out [] i (by simp)
  | cons x r ih =>
    intro i h
    rw [List.reverse_cons] at h ⊢
    generalize r.reverse = l at ih h ⊢
    by_cases hx : x = 0
    · subst hx
      rw [writtenL_snoc_zero] at h
      by_cases hi : i < l.length
      · rw [List.getD, List.getElem?_append_left hi]; exact ih i h
      · rw [List.getD, List.getElem?_append_right (by omega)]
        by_cases h2 : i - l.length = 0
        · rw [h2]; rfl
        · rw [List.getElem?_eq_none (by simp; omega)]; rfl
    · rw [writtenL_snoc l x hx] at h
      exact getD_out _ i (by simp; omega)

theorem inner_text (x : List UInt8) : bracketB (91 :: (x ++ [93])) = true ∧ innerL (91 :: (x ++ [93])) = x := by
  have h1 : Lib.hasPrefix (91 :: (x ++ [93])) [91] = true := by simp [Lib.hasPrefix]
  have h2 : Lib.trimPrefix (91 :: (x ++ [93])) [91] = x ++ [93] := by unfold Lib.trimPrefix; rw [if_pos h1]; rfl
  have h3 : Lib.hasSuffix (x ++ [93]) [93] = true := by unfold Lib.hasSuffix; rw [List.isSuffixOf_iff_suffix]; exact List.suffix_append _ _
  refine ⟨by unfold bracketB; rw [h1, h2, h3]; rfl, ?_⟩
  unfold innerL
  rw [h2]
  unfold Lib.trimSuffix
  rw [if_pos h3]
  simp
theorem numsTo_ne (l : List Int) (h : InS l) (k : Nat) : numsTo l (k + 1) ≠ [] := by
  rw [numsTo, itoa_nat _ (getD_inS h k).1]
  intro e
  have := (List.append_eq_nil_iff.1 (List.append_eq_nil_iff.1 e).2).2
  exact decDigits_ne _ this
/-- What is told of a vector that may be is read again, down to its last number that is not 0. -/
theorem parse_text (l : List Int) (h : InS l) (h8 : l.length ≤ 8) : parseL (textL l) = (l.take (writtenL l), 0) := by
  obtain ⟨hb, hi⟩ := inner_text (numsTo l (writtenL l))
  have hle := writtenL_le l
  have hlast := writtenL_last l
  unfold parseL textL
  rw [hb, hi, if_pos rfl]
  cases hw : writtenL l with
  | zero => simp [numsTo]
  | succ k =>
    rw [if_neg (numsTo_ne l h k), split_nums h k]
    unfold parseN
    rw [words_ok h, if_pos rfl, st_words h h8 k (by omega)]
    rw [if_neg (hlast k hw), if_neg (by simp)]
theorem same_written (l : List Int) : everyB eqB l (l.take (writtenL l)) = true := by
  rw [same_iff]
  intro i
  by_cases hi : i < writtenL l
  · rw [List.getD, List.getD, List.getElem?_take, if_pos hi]
  · rw [writtenL_past l i (by omega), getD_out _ i (by rw [List.length_take]; omega)]
theorem check_ok (l : List Int) (h : InS l) (h8 : l.length ≤ 8) : checkL l 8 = 0 := by
  unfold checkL
  rw [if_neg (by omega), if_neg (by omega)]
  clear h8
  induction l with
  | nil => rfl
  | cons x r ih =>
    have := h x (by simp)
    simp only [checkN]
    rw [if_neg (by omega), if_neg (by omega)]
    exact ih (fun y hy => h y (by simp [hy]))
theorem inS_take (l : List Int) (h : InS l) (k : Nat) : InS (l.take k) := fun x hx => h x (List.mem_of_mem_take hx)

end Go.Proofs.YtjbjjfndkpcciaaGreatDoor

/- Plain laws on texts: what is read is told just so. Own work; no statement. -/
set_option linter.unusedSimpArgs false
set_option linter.unusedVariables false
namespace Go.Proofs.YtjbjjfndkpcciaaGreatDoor

/-- Digits' number, however great. -/
def valTo : List UInt8 → Int → Int
  | [], n => n
  | c :: r, n => valTo r (10 * n + ((c.toNat : Int) - 48))
theorem valTo_snoc : ∀ (l : List UInt8) (c : UInt8) (n : Int), valTo (l ++ [c]) n = 10 * valTo l n + ((c.toNat : Int) - 48)
  | [], _, _ => rfl
  | _ :: l, c, _ => valTo_snoc l c _
theorem dig_range {c : UInt8} (h : digB c = true) : 48 ≤ (c.toNat : Int) ∧ (c.toNat : Int) ≤ 57 := by
  simp only [digB, decide_eq_true_eq] at h
  omega
theorem valTo_ge : ∀ (l : List UInt8) (n : Int), (∀ c ∈ l, digB c = true) → 0 ≤ n → n ≤ valTo l n
  | [], n, _, _ => Int.le_refl _
  | c :: l, n, h, h0 => by
    have hc := dig_range (h c (by simp))
    have := valTo_ge l (10 * n + ((c.toNat : Int) - 48)) (fun d hd => h d (by simp [hd])) (by omega)
    simp only [valTo]
    omega
theorem valTo_app (a b : List UInt8) (n : Int) : valTo (a ++ b) n = valTo b (valTo a n) := by
  induction a generalizing n with
  | nil => rfl
  | cons c a ih => exact ih _
theorem decTo_val : ∀ (l : List UInt8) (n : Int), (∀ c ∈ l, digB c = true) → 0 ≤ n → decTo l (min n 1048577) = min (valTo l n) 1048577
  | [], n, _, _ => rfl
  | c :: l, n, h, h0 => by
    have hc := dig_range (h c (by simp))
    simp only [decTo, valTo]
    rw [← decTo_val l _ (fun d hd => h d (by simp [hd])) (by omega)]
    congr 1
    omega
theorem decOk_parts {l : List UInt8} (h : decOk l = true) : l ≠ [] ∧ (1 < l.length → l.head? ≠ some 48) ∧ ∀ c ∈ l, digB c = true := by
  unfold decOk at h
  simp only [Bool.and_eq_true, Bool.not_eq_true', List.all_eq_true] at h
  obtain ⟨⟨h1, h2⟩, h3⟩ := h
  refine ⟨by rintro rfl; simp at h1, fun hl e => ?_, h3⟩
  rw [e] at h2
  simp [hl] at h2
theorem decTo_ok {l : List UInt8} (h : decOk l = true) : decTo l 0 = min (valTo l 0) 1048577 := decTo_val l 0 (decOk_parts h).2.2 (Int.le_refl _)
theorem byte_digit (c : UInt8) (h : digB c = true) (d : Nat) (hd : ((c.toNat : Int) - 48) = d) : UInt8.ofNat (48 + d) = c := by
  have hc := dig_range h
  rw [show 48 + d = c.toNat by omega]
  simp
theorem digits_val (r : List UInt8) : decOk r.reverse = true → Lib.decDigits (valTo r.reverse 0).toNat = r.reverse := by
  induction r with
  | nil => intro h; exact absurd rfl (decOk_parts h).1
  | cons c r ih =>
    intro h
    rw [List.reverse_cons] at h ⊢
    obtain ⟨-, h2, h3⟩ := decOk_parts h
    have hc := h3 c (by simp)
    have hcr := dig_range hc
    obtain ⟨d, hd⟩ : ∃ d : Nat, ((c.toNat : Int) - 48) = d := ⟨((c.toNat : Int) - 48).toNat, by omega⟩
    have hb := byte_digit c hc d hd
    generalize r.reverse = y at *
    rw [valTo_snoc, hd]
    cases y with
    | nil =>
      simp only [valTo]
      rw [show (10 * (0 : Int) + (d : Int)).toNat = d by omega, Lib.decDigits, dif_pos (by omega), hb]
      rfl
    | cons x y =>
      have hx : x ≠ 48 := by
        intro e
        exact h2 (by simp) (by simp [e])
      have hxd := dig_range (h3 x (by simp))
      have hx1 : 1 ≤ (x.toNat : Int) - 48 := by
        have : x.toNat ≠ 48 := fun e => hx (UInt8.toNat_inj.1 e)
        omega
      have hy3 : ∀ c ∈ y, digB c = true := fun e he => h3 e (by simp [he])
      have hge := valTo_ge y (10 * 0 + ((x.toNat : Int) - 48)) hy3 (by omega)
      have hok : decOk (x :: y) = true := by
        unfold decOk
        have hall : (x :: y).all digB = true := List.all_eq_true.2 (fun e he => h3 e (List.mem_append_left _ he))
        rw [hall]
        have : ((x :: y).head? == some 48) = false := by simpa using hx
        rw [this]
        simp
      have hv := ih hok
      have e0 : valTo (x :: y) 0 = valTo y (10 * 0 + ((x.toNat : Int) - 48)) := rfl
      rw [← e0] at hge
      generalize valTo (x :: y) 0 = v at *
      obtain ⟨u, rfl⟩ := Int.eq_ofNat_of_zero_le (show 0 ≤ v by omega)
      rw [Int.toNat_natCast] at hv
      rw [show (10 * (u : Int) + (d : Int)).toNat = 10 * u + d by omega, Lib.decDigits, dif_neg (by omega), show (10 * u + d) / 10 = u by omega, show (10 * u + d) % 10 = d by omega, hv, hb]
theorem itoa_dec {x : List UInt8} (h : decOk x = true) (h1 : decTo x 0 ≤ 1048576) : Lib.itoa (decTo x 0) = x := by
  have e := decTo_ok h
  have h0 := valTo_ge x 0 (decOk_parts h).2.2 (Int.le_refl _)
  have e2 : decTo x 0 = valTo x 0 := by omega
  rw [e2, itoa_nat _ h0]
  have := digits_val x.reverse (by rw [List.reverse_reverse]; exact h)
  rwa [List.reverse_reverse] at this
theorem dec_nonneg {x : List UInt8} (h : decOk x = true) : 0 ≤ decTo x 0 := by
  have e := decTo_ok h
  have h0 := valTo_ge x 0 (decOk_parts h).2.2 (Int.le_refl _)
  omega
theorem dec_zero {x : List UInt8} (h : decOk x = true) : decTo x 0 = 0 ↔ x = [48] := by
  constructor
  · intro h0
    have := itoa_dec h (by omega)
    rw [h0] at this
    rw [← this, itoa_digit 0 (by omega) (by omega)]
    rfl
  · rintro rfl
    rfl

def joinW : List (List UInt8) → List UInt8
  | [] => []
  | [x] => x
  | x :: y :: r => x ++ 32 :: joinW (y :: r)
theorem join_split : ∀ (s : List UInt8), joinW (splitL s) = s
  | [] => rfl
  | c :: r => by
    have ih := join_split r
    simp only [splitL]
    split
    · rename_i h
      cases hr : splitL r with
      | nil => exact absurd hr (splitL_ne r)
      | cons y ys => rw [hr] at ih; rw [joinW, ih, h]; rfl
    · cases hr : splitL r with
      | nil => exact absurd hr (splitL_ne r)
      | cons y ys =>
        rw [hr] at ih
        cases ys with
        | nil => simp only [joinW] at ih ⊢; rw [ih]
        | cons z zs => simp only [joinW] at ih ⊢; rw [← ih]; rfl
theorem splitL_inj {a b : List UInt8} (h : splitL a = splitL b) : a = b := by rw [← join_split a, ← join_split b, h]

theorem st_len (r : List (List UInt8)) : (stOf r.reverse).1.length ≤ r.length := by
  induction r with
  | nil => exact Nat.le_refl _
  | cons x r ih =>
    rw [List.reverse_cons, stOf_snoc]
    unfold stepW
    split
    · simp; omega
    · simp; omega
theorem st_good (r : List (List UInt8)) : (stOf r.reverse).2.2 = false → (stOf r.reverse).1 = r.reverse.map (decTo · 0) ∧ r.length ≤ 8 ∧ ∀ x ∈ r, decTo x 0 ≤ 1048576 := by
  induction r with
  | nil => intro _; exact ⟨rfl, by simp, fun x hx => by cases hx⟩
  | cons x r ih =>
    rw [List.reverse_cons, stOf_snoc]
    unfold stepW
    split
    · intro h; cases h
    · rename_i hc
      intro h
      obtain ⟨h1, h2, h3⟩ := ih h
      have hl : r.length = (stOf r.reverse).1.length := by rw [h1]; simp
      have h8 := stOf_len r.reverse
      refine ⟨by simp only; rw [h1, List.map_append]; rfl, by simp only [List.length_cons]; omega, fun y hy => ?_⟩
      rcases List.mem_cons.1 hy with rfl | hy
      · omega
      · exact h3 y hy
theorem st_bad (r : List (List UInt8)) : (stOf r.reverse).2.2 = true → 8 < r.length ∨ ∃ x ∈ r, 1048576 < decTo x 0 := by
  induction r with
  | nil => intro h; cases h
  | cons x r ih =>
    rw [List.reverse_cons, stOf_snoc]
    unfold stepW
    split
    · rename_i hc
      intro _
      rcases hc with hc | hc
      · exact .inr ⟨x, by simp, hc⟩
      · have := st_len r
        exact .inl (by simp only [List.length_cons]; omega)
    · intro h
      rcases ih h with h | ⟨y, hy, h⟩
      · exact .inl (by simp only [List.length_cons]; omega)
      · exact .inr ⟨y, by simp [hy], h⟩
theorem st_last (ws : List (List UInt8)) (x : List UInt8) : (stOf (ws ++ [x])).2.1 = decTo x 0 := by
  rw [stOf_snoc]
  unfold stepW
  split <;> rfl

/-- Words read one after the other, as the reference reads them. -/
def refN (ws : List (List UInt8)) : List Int × Int :=
  if ws.all decOk then (if ws.getLast? = some [48] then ([], 2) else if 8 < ws.length then ([], 4) else if ws.all (fun x => decide (decTo x 0 ≤ 1048576)) then (ws.map (decTo · 0), 0) else ([], 4)) else ([], 2)
theorem parseN_ref (ws : List (List UInt8)) (hne : ws ≠ []) : parseN ws = refN ws := by
  unfold parseN refN
  cases hall : ws.all decOk with
  | false => simp
  | true =>
    rw [if_pos rfl, if_pos rfl]
    obtain ⟨r, rfl⟩ : ∃ r, ws = r.reverse := ⟨ws.reverse, by simp⟩
    cases r with
    | nil => exact absurd rfl hne
    | cons x r =>
      have hx : decOk x = true := List.all_eq_true.1 hall x (by simp)
      have hlast : (stOf (x :: r).reverse).2.1 = decTo x 0 := by rw [List.reverse_cons]; exact st_last _ x
      have hgl : (x :: r).reverse.getLast? = some x := by simp
      rw [hlast, hgl]
      by_cases h0 : decTo x 0 = 0
      · rw [if_pos h0, if_pos (by rw [(dec_zero hx).1 h0])]
      · have hng : ¬ (some x = some [48]) := fun e => h0 ((dec_zero hx).2 (Option.some.inj e))
        rw [if_neg h0, if_neg hng]
        cases hlong : (stOf (x :: r).reverse).2.2 with
        | false =>
          obtain ⟨h1, h2, h3⟩ := st_good (x :: r) hlong
          rw [if_neg (show ¬ (false = true) by simp), if_neg (show ¬ (8 < (x :: r).reverse.length) by rw [List.length_reverse]; omega), if_pos (List.all_eq_true.2 (fun y hy => decide_eq_true (h3 y (List.mem_reverse.1 hy)))), h1]
        | true =>
          rw [if_pos (show true = true from rfl)]
          by_cases h8 : 8 < (x :: r).reverse.length
          · rw [if_pos h8]
          · rw [if_neg h8]
            rcases st_bad (x :: r) hlong with h | ⟨y, hy, h⟩
            · rw [List.length_reverse] at h8; exact absurd h h8
            · rw [if_neg]
              intro e
              have := of_decide_eq_true (List.all_eq_true.1 e y (List.mem_reverse.2 hy))
              omega

theorem writtenL_full (l : List Int) (k : Nat) (hl : l.length = k + 1) (h : l.getD k 0 ≠ 0) : writtenL l = k + 1 := by
  have e : l = l.take k ++ [l.getD k 0] := by rw [← take_snoc_getD l k (by omega), List.take_of_length_le (by omega)]
  rw [e, writtenL_snoc _ _ h, List.length_take]
  omega
theorem bracket_form {s : List UInt8} (h : bracketB s = true) : s = 91 :: (innerL s ++ [93]) := by
  unfold bracketB at h
  rw [Bool.and_eq_true] at h
  obtain ⟨h1, h2⟩ := h
  obtain ⟨t, rfl⟩ : ∃ t, s = 91 :: t := by
    unfold Lib.hasPrefix at h1
    rw [List.isPrefixOf_iff_prefix] at h1
    obtain ⟨t, ht⟩ := h1
    exact ⟨t, ht.symm⟩
  have e1 : Lib.trimPrefix (91 :: t) [91] = t := by unfold Lib.trimPrefix; rw [if_pos h1]; rfl
  rw [e1] at h2
  have h2' := h2
  unfold Lib.hasSuffix at h2
  rw [List.isSuffixOf_iff_suffix] at h2
  obtain ⟨u, rfl⟩ := h2
  exact (congrArg (fun z => (91 : UInt8) :: (z ++ [93])) (inner_text u).2).symm
/-- What is a vector is told just so. -/
theorem text_parse {s : List UInt8} (h : (parseL s).2 = 0) : textL (parseL s).1 = s := by
  unfold parseL at h ⊢
  by_cases hb : bracketB s = true
  · rw [if_pos hb] at h ⊢
    have hs := bracket_form hb
    by_cases hi : innerL s = []
    · rw [if_pos hi]
      rw [hi] at hs
      rw [hs]
      rfl
    · rw [if_neg hi] at h ⊢
      rw [parseN_ref _ (splitL_ne _)] at h ⊢
      obtain ⟨ws, hws⟩ : ∃ ws, splitL (innerL s) = ws := ⟨_, rfl⟩
      rw [hws] at h ⊢
      have hne : ws ≠ [] := by rw [← hws]; exact splitL_ne _
      unfold refN at h ⊢
      by_cases hall : ws.all decOk = true
      · rw [if_pos hall] at h ⊢
        by_cases hl : ws.getLast? = some [48]
        · rw [if_pos hl] at h; cases h
        · rw [if_neg hl] at h ⊢
          by_cases h8 : 8 < ws.length
          · rw [if_pos h8] at h; cases h
          · rw [if_neg h8] at h ⊢
            by_cases hle : ws.all (fun x => decide (decTo x 0 ≤ 1048576)) = true
            · rw [if_pos hle]
              have hok : ∀ x ∈ ws, decOk x = true := List.all_eq_true.1 hall
              have hsm : ∀ x ∈ ws, decTo x 0 ≤ 1048576 := fun x hx => of_decide_eq_true (List.all_eq_true.1 hle x hx)
              obtain ⟨k, hk⟩ : ∃ k, ws.length = k + 1 := ⟨ws.length - 1, by have := List.length_pos_iff.2 hne; omega⟩
              have hS : InS (ws.map (decTo · 0)) := by
                intro y hy
                obtain ⟨x, hx, rfl⟩ := List.mem_map.1 hy
                exact ⟨dec_nonneg (hok x hx), hsm x hx⟩
              have hgd : ∀ i (hi : i < ws.length), (ws.map (decTo · 0)).getD i 0 = decTo ws[i] 0 := by
                intro i hi
                rw [getD_in _ i (by simpa using hi)]; simp
              have hw : wordsTo (ws.map (decTo · 0)) (k + 1) = ws := by
                unfold wordsTo
                apply List.ext_getElem
                · simp [hk]
                · intro i h1 h2
                  simp only [List.getElem_map, List.getElem_range]
                  rw [hgd i h2, itoa_dec (hok _ (List.getElem_mem h2)) (hsm _ (List.getElem_mem h2))]
              have hn : numsTo (ws.map (decTo · 0)) (k + 1) = innerL s := splitL_inj (by rw [split_nums hS k, hw, hws])
              have hlast : (ws.map (decTo · 0)).getD k 0 ≠ 0 := by
                rw [hgd k (by omega)]
                intro e
                apply hl
                rw [List.getLast?_eq_getElem?, hk, Nat.add_sub_cancel, List.getElem?_eq_getElem (by omega), (dec_zero (hok _ (List.getElem_mem (by omega)))).1 e]
              unfold textL
              rw [writtenL_full _ k (by simp [hk]) hlast, hn]
              exact hs.symm
            · rw [if_neg hle] at h; cases h
      · rw [if_neg hall] at h; cases h
  · rw [if_neg hb] at h; cases h

end Go.Proofs.YtjbjjfndkpcciaaGreatDoor

/- Plain laws: a record in words is read again as it was. Own work; no statement. -/
set_option linter.unusedSimpArgs false
set_option linter.unusedVariables false
namespace Go.Proofs.YtjbjjfndkpcciaaGreatDoor

theorem index_at : ∀ (a b : List UInt8) (x : UInt8), (∀ c ∈ a, c ≠ x) → Lib.indexByte (a ++ x :: b) x = a.length
  | [], b, x, _ => by simp [Lib.indexByte]
  | c :: a, b, x, h => by
    have ih := index_at a b x (fun d hd => h d (by simp [hd]))
    have hc : (c == x) = false := by simpa using h c (by simp)
    have hn : ¬ (a.length : Int) = -1 := by omega
    simp [Lib.indexByte, hc, ih, hn]

theorem cut_at (a b : List UInt8) (x : UInt8) (h : ∀ c ∈ a, c ≠ x) : cutL (a ++ x :: b) x = (a, b, true) := by
  unfold cutL
  rw [index_at a b x h, if_neg (by omega)]
  simp

theorem dig_ne {c x : UInt8} (h : digB c = true) (hx : x.toNat < 48 ∨ 57 < x.toNat) : c ≠ x := by
  intro e
  subst e
  simp only [digB, decide_eq_true_eq] at h
  omega

theorem decToM_val {m : Int} (hm : 0 ≤ m) : ∀ (l : List UInt8) (n : Int), (∀ c ∈ l, digB c = true) → 0 ≤ n → decToM m l (min n (m + 1)) = min (valTo l n) (m + 1)
  | [], n, _, _ => rfl
  | c :: l, n, h, h0 => by
    have hc := dig_range (h c (by simp))
    have ih := decToM_val hm l (10 * n + ((c.toNat : Int) - 48)) (fun d hd => h d (by simp [hd])) (by omega)
    simp only [decToM, valTo]
    rw [← ih]
    congr 1
    omega

theorem valTo_digits (u : Nat) : valTo (Lib.decDigits u) 0 = u := by
  induction u using Nat.strongRecOn with
  | _ u ih =>
    rw [Lib.decDigits]
    split
    · rename_i h
      simp only [valTo]
      rw [digit_val u h]
      omega
    · rename_i h
      rw [valTo_snoc, ih (u / 10) (by omega), digit_val (u % 10) (by omega)]
      omega

theorem numL_itoa {x : Int} (h0 : 0 ≤ x) (h1 : x ≤ 2147483647) : numL (Lib.itoa x) = (x, true) := by
  rw [itoa_nat x h0]
  have hv : decToM 2147483647 (Lib.decDigits x.toNat) 0 = x := by
    have := decToM_val (m := 2147483647) (by omega) (Lib.decDigits x.toNat) 0 (decDigits_all _) (Int.le_refl _)
    rw [show min (0 : Int) (2147483647 + 1) = 0 by omega, valTo_digits] at this
    rw [this]
    omega
  unfold numL
  rw [decOk_digits, hv, if_pos ⟨rfl, h1⟩]

theorem nums_no93 {l : List Int} (h : InS l) : ∀ k, ∀ c ∈ numsTo l k, c ≠ 93
  | 0 => by simp [numsTo]
  | k + 1 => by
    intro c hc
    simp only [numsTo, List.mem_append] at hc
    rcases hc with hc | hc | hc
    · exact nums_no93 h k c hc
    · split at hc
      · simp at hc
      · simp at hc
        subst hc
        decide
    · rw [itoa_nat _ (getD_inS h k).1] at hc
      exact dig_ne (decDigits_all _ c hc) (by decide)

theorem key_ne {l : List UInt8} (h : isKeyL l = true) : ∀ c ∈ l, c ≠ 61 := by
  intro c hc e
  subst e
  unfold isKeyL at h
  simp only [Bool.and_eq_true, List.all_eq_true] at h
  have := h.2 61 hc
  revert this
  decide

theorem itoa_ne {x : Int} (h : 0 ≤ x) {y : UInt8} (hy : y.toNat < 48 ∨ 57 < y.toNat) : ∀ c ∈ Lib.itoa x, c ≠ y := by
  intro c hc
  rw [itoa_nat x h] at hc
  exact dig_ne (decDigits_all _ c hc) hy

theorem textR_list (r : RecD) : (textR r).data.toList = Lib.itoa r.site ++ 58 :: (Lib.itoa r.seq ++ 32 :: (textL r.dep ++ 32 :: (r.key.data.toList ++ 61 :: r.val.data.toList))) := by
  unfold textR
  simp [ByteArray.data_append]

theorem split_text (r : RecD) (h0 : 0 ≤ r.site) (h1 : 0 ≤ r.seq) (hd : InS r.dep) (hk : isKeyL r.key.data.toList = true) :
    splitR (textR r).data.toList = some ⟨Lib.itoa r.site, Lib.itoa r.seq, textL r.dep, r.key.data.toList, r.val.data.toList⟩ := by
  rw [textR_list]
  unfold splitR
  rw [cut_at _ _ 58 (itoa_ne h0 (by decide))]
  dsimp only
  rw [cut_at _ _ 32 (itoa_ne h1 (by decide))]
  dsimp only
  have hix : Lib.indexByte (textL r.dep ++ 32 :: (r.key.data.toList ++ 61 :: r.val.data.toList)) 93 = (numsTo r.dep (writtenL r.dep)).length + 1 := by
    have := index_at (91 :: numsTo r.dep (writtenL r.dep)) (32 :: (r.key.data.toList ++ 61 :: r.val.data.toList)) 93 (by
      intro c hc
      rcases List.mem_cons.1 hc with rfl | hc
      · decide
      · exact nums_no93 hd _ c hc)
    unfold textL
    simpa using this
  rw [hix]
  have hlen : (textL r.dep).length = (numsTo r.dep (writtenL r.dep)).length + 2 := by simp [textL]
  have he : (((numsTo r.dep (writtenL r.dep)).length : Int) + 1 + 1).toNat = (textL r.dep).length := by rw [hlen]; omega
  rw [he, List.drop_left, List.take_left]
  have hp : Lib.hasPrefix (32 :: (r.key.data.toList ++ 61 :: r.val.data.toList)) [32] = true := by simp [Lib.hasPrefix, List.isPrefixOf]
  have ht : Lib.trimPrefix (32 :: (r.key.data.toList ++ 61 :: r.val.data.toList)) [32] = r.key.data.toList ++ 61 :: r.val.data.toList := by unfold Lib.trimPrefix; rw [hp]; simp
  rw [ht, hp, cut_at _ _ 61 (key_ne hk)]
  rw [if_pos ⟨rfl, rfl, by omega, rfl, rfl⟩]

theorem check_inS {l : List Int} {s : Int} (h : checkL l s = 0) : 1 ≤ s ∧ s ≤ 8 ∧ (l.length : Int) ≤ s ∧ InS l := by
  unfold checkL at h
  split at h
  · cases h
  · split at h
    · cases h
    · refine ⟨by omega, by omega, by omega, ?_⟩
      have : ∀ l : List Int, checkN l = 0 → InS l := by
        intro l
        induction l with
        | nil => intro _ x hx; simp at hx
        | cons n l ih =>
          intro h x hx
          simp only [checkN] at h
          split at h
          · cases h
          · split at h
            · cases h
            · rcases List.mem_cons.1 hx with rfl | hx
              · omega
              · exact ih h x hx
      exact this l h

theorem check_parts {r : RecD} {s : Int} (h : checkR r s = 0) : 1 ≤ s ∧ s ≤ 8 ∧ 0 ≤ r.site ∧ r.site < s ∧ 1 ≤ r.seq ∧ r.seq ≤ 1048576 ∧ (r.dep.length : Int) ≤ s ∧ InS r.dep ∧ geti r.dep r.site < r.seq ∧ isKeyL r.key.data.toList = true ∧ checkValL r.val.data.toList = 0 := by
  unfold checkR at h
  split at h
  · cases h
  · split at h
    · rename_i h1 h2
      split at h
      · cases h
      · split at h
        · rename_i h3 h4
          obtain ⟨a1, a2, a3, a4⟩ := check_inS h2
          exact ⟨by omega, by omega, by omega, by omega, by omega, by omega, a3, a4, by omega, h4, h⟩
        · cases h
    · rename_i h2
      exact absurd h h2

/-- What is read of a record's words. -/
def backR (r : RecD) : RecD := ⟨r.site, r.seq, r.dep.take (writtenL r.dep), r.key, r.val⟩

theorem geti_written (l : List Int) (i : Int) : geti (l.take (writtenL l)) i = geti l i := by
  have hs := same_written l
  rw [same_iff] at hs
  by_cases h : 0 ≤ i
  · obtain ⟨n, rfl⟩ := Int.eq_ofNat_of_zero_le h
    rw [geti_nat, geti_nat]
    exact (hs n).symm
  · unfold geti
    rw [if_pos (by omega), if_pos (by omega)]

theorem back_check {r : RecD} {s : Int} (h : checkR r s = 0) : checkR (backR r) 8 = 0 := by
  obtain ⟨a1, a2, a3, a4, a5, a6, a7, a8, a9, a10, a11⟩ := check_parts h
  unfold checkR backR
  dsimp only
  rw [if_neg (by omega), if_pos (check_ok _ (inS_take _ a8 _) (by rw [List.length_take]; omega)), geti_written, if_neg (by omega), if_pos a10]
  exact a11

theorem parse_textR {r : RecD} {s : Int} (h : checkR r s = 0) : parseR (textR r).data.toList = (backR r, 0) := by
  obtain ⟨a1, a2, a3, a4, a5, a6, a7, a8, a9, a10, a11⟩ := check_parts h
  have hb := back_check h
  unfold parseR
  rw [split_text r a3 (by omega) a8 a10]
  dsimp only
  unfold parseP
  rw [numL_itoa a3 (by omega), numL_itoa (by omega) (by omega), parse_text _ a8 (by omega)]
  dsimp only
  rw [if_pos ⟨rfl, rfl, rfl⟩, if_pos rfl]
  have e : (⟨r.site, r.seq, r.dep.take (writtenL r.dep), ⟨r.key.data.toList.toArray⟩, ⟨r.val.data.toList.toArray⟩⟩ : RecD) = backR r := by simp [backR]
  rw [e, hb, if_pos rfl]

theorem back_same (r : RecD) : sameR (backR r) r = true := by
  unfold sameR backR
  simp only [decide_true, Bool.true_and]
  have hs := same_written r.dep
  rw [same_iff] at hs ⊢
  exact fun i => (hs i).symm

end Go.Proofs.YtjbjjfndkpcciaaGreatDoor

/- seg's entries: text, parse. Own work; no statement. -/
set_option linter.unusedSimpArgs false
set_option linter.unusedVariables false
namespace Go.Proofs.YtjbjjfndkpcciaaGreatDoor
open Go.RowKit Go.Shelf Go.Sort

/-- An entry: its sign, a position or an epoch, a record. -/
structure EntD where
  sign : UInt8
  n : Int
  r : RecD

/-- In the world w the value v reads as the entry e; its record's numbers lie from B on. -/
def IsEnt (w : World) (B : Nat) (v : Value) (e : EntD) : Prop :=
  ∃ vd, v = .agg #[.string ⟨#[e.sign]⟩, .int .i64 e.n, .int .i64 e.r.site, .int .i64 e.r.seq, vd, .string e.r.key, .string e.r.val] ∧ w.ownsRow B 3 1 vd e.r.dep.length (e.r.dep.map (Value.int .i64))

theorem IsEnt.below {w w' : World} {B : Nat} {v : Value} {e : EntD} (h : IsEnt w B v e) (hb : Below w.heap.size w w') : IsEnt w' B v e := by
  obtain ⟨vd, rfl, hr⟩ := h
  exact ⟨vd, rfl, own_below hr hb⟩

/-- An entry in one line. -/
def textE (e : EntD) : ByteArray :=
  if e.sign = 112 then (⟨#[e.sign]⟩ : ByteArray) ++ ⟨#[32]⟩ ++ ⟨(Lib.itoa e.n).toArray⟩ ++ (⟨#[32]⟩ ++ textR e.r) else (⟨#[e.sign]⟩ : ByteArray) ++ ⟨#[32]⟩ ++ ⟨(Lib.itoa e.n).toArray⟩

theorem textR_size {r : RecD} (hs0 : -9223372036854775808 ≤ r.site) (hs1 : r.site ≤ 9223372036854775807) (hq0 : -9223372036854775808 ≤ r.seq) (hq1 : r.seq ≤ 9223372036854775807) (hr : InR r.dep) : (textR r).size ≤ 48 + 22 * r.dep.length + r.key.size + r.val.size := by
  have l1 := Lib.itoa_length_le r.site hs0 hs1
  have l2 := Lib.itoa_length_le r.seq hq0 hq1
  have l3 := textL_length hr
  unfold textR
  simp only [ByteArray.size_append]
  have z1 : (⟨(Lib.itoa r.site).toArray⟩ : ByteArray).size ≤ 21 := by simpa [ByteArray.size] using l1
  have z2 : (⟨(Lib.itoa r.seq).toArray⟩ : ByteArray).size ≤ 21 := by simpa [ByteArray.size] using l2
  have z3 : (⟨(textL r.dep).toArray⟩ : ByteArray).size ≤ 22 * r.dep.length + 2 := by simpa [ByteArray.size] using l3
  have z4 : (⟨#[58]⟩ : ByteArray).size = 1 := rfl
  have z5 : (⟨#[32]⟩ : ByteArray).size = 1 := rfl
  have z6 : (⟨#[61]⟩ : ByteArray).size = 1 := rfl
  omega

set_option maxHeartbeats 4000000 in
set_option maxRecDepth 100000 in
theorem entText_calls (B : Nat) (v : Value) (e : EntD) (w : World) (hv : IsEnt w B v e) (hn0 : -9223372036854775808 ≤ e.n) (hn1 : e.n ≤ 9223372036854775807) (hs0 : -9223372036854775808 ≤ e.r.site) (hs1 : e.r.site ≤ 9223372036854775807) (hq0 : -9223372036854775808 ≤ e.r.seq) (hq1 : e.r.seq ≤ 9223372036854775807) (hl : e.r.dep.length ≤ 4294967296) (hr : InR e.r.dep) (hks : e.r.key.size ≤ 1099511627776) (hvs : e.r.val.size ≤ 1099511627776) (hp : Pow w) :
    Calls Tryz.prog 173 #[v] w fun x w' => x = .returned (.string (textE e)) ∧ Below w.heap.size w w' := by
  obtain ⟨sign, n, r⟩ := e
  obtain ⟨vd, rfl, hd⟩ := hv
  dsimp only at *
  obtain ⟨a, cap, rfl⟩ := ownsRow_slice hd
  have HR := hide (fun w' (hb : Below w.heap.size w w') => recText_calls (.agg #[.int .i64 r.site, .int .i64 r.seq, .slice a r.dep.length cap, .string r.key, .string r.val]) r w' ⟨a, cap, rfl, (IsNums.of_row hd).below hb⟩ hs0 hs1 hq0 hq1 hl hr hks hvs (hp.below hb))
  have hts := textR_size hs0 hs1 hq0 hq1 hr
  have hts' : (textR r).size ≤ 4398046511104 := by omega
  clear hts
  obtain ⟨t, ht⟩ : ∃ t, textE ⟨sign, n, r⟩ = t := ⟨_, rfl⟩
  rw [ht]
  unfold textE at ht
  dsimp only at ht
  generalize textR r = T at *
  have l1 := Lib.itoa_length_le n hn0 hn1
  obtain ⟨P, hP⟩ : ∃ P : ByteArray, (⟨#[sign]⟩ : ByteArray) = P := ⟨_, rfl⟩
  have z0 : P.size = 1 := by rw [← hP]; rfl
  rw [hP] at ht ⊢
  have HB := box_below w (.cells #[.string P, .int .i64 n, .int .i64 r.site, .int .i64 r.seq, .slice a r.dep.length cap, .string r.key, .string r.val] 170)
  obtain ⟨W1, hW1⟩ : ∃ W1, w.alloc (.cells #[.string P, .int .i64 n, .int .i64 r.site, .int .i64 r.seq, .slice a r.dep.length cap, .string r.key, .string r.val] 170) = W1 := ⟨_, rfl⟩
  have x0 : W1.heap[w.heap.size]? = some (.cells #[.string P, .int .i64 n, .int .i64 r.site, .int .i64 r.seq, .slice a r.dep.length cap, .string r.key, .string r.val] 170 (0, 0)) := by rw [← hW1]; exact World.alloc_heap_new w _
  rw [hW1] at HB
  have k0 := cell_regrown (cells7 x0).1
  have k1 := cell_regrown (cells7 x0).2.1
  have q1 := hide (fun d os => Calls.regrown_of (itoa_calls n (grow (redrawn W1 d) os) hn0 hn1 ((hp.below HB).below (below_regrown W1 d os))))
  have z1 : (⟨(Lib.itoa n).toArray⟩ : ByteArray).size ≤ 21 := by simpa [ByteArray.size] using l1
  generalize (⟨(Lib.itoa n).toArray⟩ : ByteArray) = S1 at *
  have n1 : ¬ 9223372036854775807 < P.size + 1 := by omega
  have n2 : ¬ 9223372036854775807 < P.size + 1 + S1.size := by omega
  have Z0 := hide z0
  have Z1 := hide z1
  have HW := hide hW1
  have X0 := hide x0
  clear hW1 hp hr l1 x0 z0 z1
  have Ht := hide ht
  clear ht
  by_cases hsg : sign = 112
  · have e1 := Ht.out
    rw [if_pos hsg] at e1
    subst e1
    clear Ht
    have hPe : (P.toList == [112]) = true := by rw [← hP, hsg]; decide +kernel
    clear hP hsg
    go_enter Tryz.func173, Tryz.ntmps173
    go_wp2_with fail
    rw [HW.out]
    refine wp_region_quiet_below (by kernel_rfl) (by kernel_rfl) ?_
    repeat (quiet_step (first | exact q1.out _ _))
    refine wpQuiet_nil ?_
    intro _ hw'
    obtain ⟨⟨dq, osq⟩, hw''⟩ := hw'
    obtain ⟨W2, hW2⟩ : ∃ W2, grow (redrawn W1 dq) osq = W2 := ⟨_, rfl⟩
    have B2 : Below W1.heap.size W1 W2 := by rw [← hW2]; exact below_regrown W1 dq osq
    dsimp only at hw''
    rw [hW2] at hw''
    subst hw''
    clear hW2 k0 k1 q1
    have hB2 := HB.trans (B2.mono HB.size)
    have x2 := keepB X0.out B2
    obtain ⟨k0, k1, k2, k3, k4, k5, k6, -, -, -, -, -, -, -⟩ := cells7 x2
    obtain ⟨L, hL⟩ : ∃ L, P ++ ⟨#[32]⟩ ++ S1 = L := ⟨_, rfl⟩
    have zL : L.size ≤ 23 := by rw [← hL]; simp only [ByteArray.size_append]; have : (⟨#[32]⟩ : ByteArray).size = 1 := rfl; have := Z0.out; have := Z1.out; omega
    rw [hL]
    have HL := hide hL
    clear hL n1 n2
    clear x2
    have n3 : ¬ 9223372036854775807 < 1 + T.size := by omega
    have n4 : ¬ 9223372036854775807 < L.size + (1 + T.size) := by omega
    go_wp2_with (go_at_call 200; refine (HR.out _ hB2).mono ?_; rintro e w3 ⟨rfl, hb3⟩)
    rw [HL.out]
    go_ret
    exact ⟨rfl, hB2.trans (hb3.mono hB2.size)⟩
  · have e1 := Ht.out
    rw [if_neg hsg] at e1
    subst e1
    clear Ht
    have hPe : (P.toList == [112]) = false := by rw [← hP, Lib.toList_data]; simp [hsg]
    clear hP hsg
    go_enter Tryz.func173, Tryz.ntmps173
    go_wp2_with fail
    rw [HW.out]
    refine wp_region_quiet_below (by kernel_rfl) (by kernel_rfl) ?_
    repeat (quiet_step (first | exact q1.out _ _))
    refine wpQuiet_nil ?_
    intro _ hw'
    obtain ⟨⟨dq, osq⟩, hw''⟩ := hw'
    obtain ⟨W2, hW2⟩ : ∃ W2, grow (redrawn W1 dq) osq = W2 := ⟨_, rfl⟩
    have B2 : Below W1.heap.size W1 W2 := by rw [← hW2]; exact below_regrown W1 dq osq
    dsimp only at hw''
    rw [hW2] at hw''
    subst hw''
    clear hW2 k0 k1 q1
    have hB2 := HB.trans (B2.mono HB.size)
    have x2 := keepB X0.out B2
    have k0 := (cells7 x2).1
    clear x2
    go_wp2
    go_ret
    exact ⟨rfl, hB2⟩

/-- A line as an entry. -/
def parseE (l : List UInt8) : Option EntD :=
  if (cutL l 32).1 = [112] then
    (if (numL (cutL (cutL l 32).2.1 32).1).2 = true ∧ (parseR (cutL (cutL l 32).2.1 32).2.1).2 = 0 then some ⟨112, (numL (cutL (cutL l 32).2.1 32).1).1, (parseR (cutL (cutL l 32).2.1 32).2.1).1⟩ else none)
  else if (cutL l 32).1 = [115] then (if (numL (cutL l 32).2.1).2 = true then some ⟨115, (numL (cutL l 32).2.1).1, zeroR⟩ else none)
  else if (cutL l 32).1 = [99] then (if (numL (cutL l 32).2.1).2 = true then some ⟨99, (numL (cutL l 32).2.1).1, zeroR⟩ else none)
  else if (cutL l 32).1 = [116] then (if (numL (cutL l 32).2.1).2 = true then some ⟨116, (numL (cutL l 32).2.1).1, zeroR⟩ else none)
  else none

def putE (l : List UInt8) : Option EntD := if (numL (cutL l 32).1).2 = true ∧ (parseR (cutL l 32).2.1).2 = 0 then some ⟨112, (numL (cutL l 32).1).1, (parseR (cutL l 32).2.1).1⟩ else none
def numE (c : UInt8) (l : List UInt8) : Option EntD := if (numL l).2 = true then some ⟨c, (numL l).1, zeroR⟩ else none
theorem parseE_eq (l : List UInt8) : parseE l = if (cutL l 32).1 = [112] then putE (cutL l 32).2.1 else if (cutL l 32).1 = [115] then numE 115 (cutL l 32).2.1 else if (cutL l 32).1 = [99] then numE 99 (cutL l 32).2.1 else if (cutL l 32).1 = [116] then numE 116 (cutL l 32).2.1 else none := rfl

/-- What a parser of entries tells. -/
def GivesE (w : World) (o : Option EntD) (x : Ending) (w' : World) : Prop :=
  ∃ v, x = .returned (.tuple #[v, .bool o.isSome]) ∧ (∃ c n s q a m cap k z, v = .agg #[.string c, .int .i64 n, .int .i64 s, .int .i64 q, .slice a m cap, .string k, .string z]) ∧ (∀ e, o = some e → IsEnt w' w.heap.size v e) ∧ Below w.heap.size w w'

theorem zero_ent (B : Nat) (w : World) (c : UInt8) (n : Int) : IsEnt w B (.agg #[.string ⟨#[c]⟩, .int .i64 n, .int .i64 0, .int .i64 0, .slice none 0 0, .string ⟨#[]⟩, .string ⟨#[]⟩]) ⟨c, n, zeroR⟩ := ⟨_, rfl, World.ownsRow_nil _ _ _ _⟩

set_option maxHeartbeats 2000000 in
set_option maxRecDepth 100000 in
theorem parseNumber_calls (c : UInt8) (l : List UInt8) (w : World) (hs : l.length ≤ 1099511627776) :
    Calls Tryz.prog 194 #[.string ⟨#[c]⟩, .string ⟨l.toArray⟩] w (GivesE w (numE c l)) := by
  have u1 := hide (fun w => numParse_calls ⟨l.toArray⟩ w (by simpa [ByteArray.size] using hs))
  simp only [show (⟨l.toArray⟩ : ByteArray).data.toList = l from rfl] at u1
  obtain ⟨o, ho⟩ : ∃ o, numE c l = o := ⟨_, rfl⟩
  rw [ho]
  unfold numE at ho
  generalize numL l = p at *
  obtain ⟨n, b⟩ := p
  dsimp only at *
  have HB := box_below w (.cells #[.string ⟨#[]⟩, .int .i64 0, .int .i64 0, .int .i64 0, .slice none 0 0, .string ⟨#[]⟩, .string ⟨#[]⟩] 170)
  obtain ⟨W1, hW1⟩ : ∃ W1, w.alloc (.cells #[.string ⟨#[]⟩, .int .i64 0, .int .i64 0, .int .i64 0, .slice none 0 0, .string ⟨#[]⟩, .string ⟨#[]⟩] 170) = W1 := ⟨_, rfl⟩
  have x0 : W1.heap[w.heap.size]? = some (.cells #[.string ⟨#[]⟩, .int .i64 0, .int .i64 0, .int .i64 0, .slice none 0 0, .string ⟨#[]⟩, .string ⟨#[]⟩] 170 (0, 0)) := by rw [← hW1]; exact World.alloc_heap_new w _
  rw [hW1] at HB
  obtain ⟨k0, k1, k2, k3, k4, k5, k6, f0, f1, f2, f3, f4, f5, f6⟩ := cells7 x0
  have HW := hide hW1
  have X0 := hide x0
  clear hW1 x0
  cases b with
  | false =>
    simp at ho
    subst ho
    go_enter Tryz.func194, Tryz.ntmps194
    go_wp2_with (first | (go_at_call 176; rw [HW.out]; refine (u1.out _).mono ?_; rintro e w' ⟨rfl, hw'⟩; subst hw'))
    obtain ⟨W2, hW2⟩ : ∃ W2, put7 w' w.heap.size (.string ⟨#[]⟩) (.int .i64 0) (.int .i64 0) (.int .i64 0) (.slice none 0 0) (.string ⟨#[]⟩) (.string ⟨#[]⟩) = W2 := ⟨_, rfl⟩
    have e2 := put7_heap X0.out (.string ⟨#[]⟩) (.int .i64 0) (.int .i64 0) (.int .i64 0) (.slice none 0 0) (.string ⟨#[]⟩) (.string ⟨#[]⟩)
    have hB2 := put7_below HB (Nat.le_refl _) (.string ⟨#[]⟩) (.int .i64 0) (.int .i64 0) (.int .i64 0) (.slice none 0 0) (.string ⟨#[]⟩) (.string ⟨#[]⟩)
    rw [hW2] at e2 hB2
    unfold put7 put5 at hW2
    rw [hW2]
    clear hW2 k0 k1 k2 k3 k4 k5 k6 f0 f1 f2 f3 f4 f5 f6
    obtain ⟨k0, k1, k2, k3, k4, k5, k6, -, -, -, -, -, -, -⟩ := cells7 e2
    exact bodyPost_ret (v := .tuple #[.agg #[.string ⟨#[]⟩, .int .i64 0, .int .i64 0, .int .i64 0, .slice none 0 0, .string ⟨#[]⟩, .string ⟨#[]⟩], .bool false]) (by simp [results, Tryz.f194, go_sem, k0, k1, k2, k3, k4, k5, k6]) rfl ⟨_, rfl, ⟨_, _, _, _, _, _, _, _, _, rfl⟩, fun e h => (by cases h), hB2⟩
  | true =>
    simp at ho
    subst ho
    go_enter Tryz.func194, Tryz.ntmps194
    go_wp2_with (first | (go_at_call 176; rw [HW.out]; refine (u1.out _).mono ?_; rintro e w' ⟨rfl, hw'⟩; subst hw'))
    obtain ⟨W2, hW2⟩ : ∃ W2, put7 w' w.heap.size (.string ⟨#[c]⟩) (.int .i64 n) (.int .i64 0) (.int .i64 0) (.slice none 0 0) (.string ⟨#[]⟩) (.string ⟨#[]⟩) = W2 := ⟨_, rfl⟩
    have e2 := put7_heap X0.out (.string ⟨#[c]⟩) (.int .i64 n) (.int .i64 0) (.int .i64 0) (.slice none 0 0) (.string ⟨#[]⟩) (.string ⟨#[]⟩)
    have hB2 := put7_below HB (Nat.le_refl _) (.string ⟨#[c]⟩) (.int .i64 n) (.int .i64 0) (.int .i64 0) (.slice none 0 0) (.string ⟨#[]⟩) (.string ⟨#[]⟩)
    rw [hW2] at e2 hB2
    unfold put7 put5 at hW2
    rw [hW2]
    clear hW2 k0 k1 k2 k3 k4 k5 k6 f0 f1 f2 f3 f4 f5 f6
    obtain ⟨k0, k1, k2, k3, k4, k5, k6, -, -, -, -, -, -, -⟩ := cells7 e2
    exact bodyPost_ret (v := .tuple #[.agg #[.string ⟨#[c]⟩, .int .i64 n, .int .i64 0, .int .i64 0, .slice none 0 0, .string ⟨#[]⟩, .string ⟨#[]⟩], .bool true]) (by simp [results, Tryz.f194, go_sem, k0, k1, k2, k3, k4, k5, k6]) rfl ⟨_, rfl, ⟨_, _, _, _, _, _, _, _, _, rfl⟩, fun e h => (by cases h; exact zero_ent _ _ _ _), hB2⟩

end Go.Proofs.YtjbjjfndkpcciaaGreatDoor
