/- batch's New, Full, First, Len, Clear, Twin, Add. Own work; no statement. -/
import Derived.Test.YtpkjkhpnhcbciaaB1
import Derived.Deep.RegionHeld3
import Derived.Deep.RegionLaw
import Derived.Deep.AppendLies
set_option linter.unusedSimpArgs false
set_option linter.unusedVariables false
namespace Go.Proofs.Ytpkjkhpnhcbciaa
open Go.RowKit Go.Shelf Go.Sort

set_option maxHeartbeats 1000000 in
theorem batNew_calls (s r : Int) (w : World) (h : 1 ≤ s ∧ s ≤ r ∧ r ≤ 64) :
    Calls Try.prog 6 #[.int .i64 s, .int .i64 r] w fun e w' => e = .returned (.tuple #[.pointer (some ⟨w.heap.size, 0, none⟩), .int .i64 0]) ∧ IsBat w' w.heap.size w.heap.size none ⟨s, r, []⟩ ∧ Below w.heap.size w w' := by
  obtain ⟨h1, h2, h3⟩ := h
  go_enter Try.func6, Try.ntmps6
  go_wp2
  go_ret2
  exact ⟨rfl, ⟨⟨h1, h2, h3, by simp; omega⟩, Nat.le_refl _, _, rfl, World.alloc_heap_new w _, World.ownsRow_nil _ _ _ _⟩, (Below.refl _ w).alloc (Nat.le_refl _) _⟩
set_option maxHeartbeats 1000000 in
theorem batNew_none (s r : Int) (w : World) (h : ¬ (1 ≤ s ∧ s ≤ r ∧ r ≤ 64)) :
    Calls Try.prog 6 #[.int .i64 s, .int .i64 r] w fun e w' => e = .returned (.tuple #[.pointer none, .int .i64 1]) ∧ w' = w := by
  have hh := hide h
  clear h
  by_cases h1 : 64 < r
  · go_enter Try.func6, Try.ntmps6
    go_wp2
    go_ret2
    exact ⟨rfl, rfl⟩
  by_cases h2 : s < 1
  · go_enter Try.func6, Try.ntmps6
    go_wp2
    go_ret2
    exact ⟨rfl, rfl⟩
  by_cases h3 : r < s
  · go_enter Try.func6, Try.ntmps6
    go_wp2
    go_ret2
    exact ⟨rfl, rfl⟩
  exact absurd ⟨by omega, by omega, by omega⟩ hh.out

set_option maxHeartbeats 1000000 in
theorem batLen_calls (B p : Nat) (g : Option Nat) (D : BatD) (w : World) (hd : IsBat w B p g D) :
    Calls Try.prog 12 #[.pointer (some ⟨p, 0, none⟩)] w fun e w' => e = .returned (.int .i64 (D.L.length : Int)) ∧ w' = w := by
  obtain ⟨a, cap, c0, c1, c2, hf, -, -, -⟩ := hd.open
  have hl := hd.len
  clear hd
  go_enter Try.func12, Try.ntmps12
  go_wp2
  go_ret
  exact ⟨rfl, rfl⟩

set_option maxHeartbeats 1000000 in
theorem batFull_calls (B p : Nat) (g : Option Nat) (D : BatD) (b : Bool) (hb : decide (D.size ≤ (D.L.length : Int)) = b) (w : World) (hd : IsBat w B p g D) :
    Calls Try.prog 13 #[.pointer (some ⟨p, 0, none⟩)] w fun e w' => e = .returned (.bool b) ∧ ∃ n, w' = w.drewN n := by
  obtain ⟨a, cap, c0, c1, c2, hf, -, -, -⟩ := hd.open
  have hl := hd.len
  clear hd
  go_enter Try.func13, Try.ntmps13
  go_wp2
  go_quiet (fail)
  go_wp2
  go_ret
  exact ⟨by rw [← hb]; rfl, _, rfl⟩

set_option maxHeartbeats 1000000 in
theorem batFirst_none (B p : Nat) (g : Option Nat) (D : BatD) (h0 : D.L = []) (w : World) (hd : IsBat w B p g D) :
    Calls Try.prog 11 #[.pointer (some ⟨p, 0, none⟩)] w fun e w' => e = .returned (.tuple #[.int .i64 0, .bool false]) ∧ ∃ n, w' = w.drewN n := by
  obtain ⟨a, cap, c0, c1, c2, hf, -, -, -⟩ := hd.open
  rw [h0] at c2
  dsimp only [List.length_nil] at c2
  clear hd h0
  go_enter Try.func11, Try.ntmps11
  go_wp2
  go_ret2
  exact ⟨rfl, 0, rfl⟩

set_option maxHeartbeats 1000000 in
theorem batFirst_some (B p : Nat) (g : Option Nat) (D : BatD) (x : Int) (l : List Int) (h0 : D.L = x :: l) (w : World) (hd : IsBat w B p g D) :
    Calls Try.prog 11 #[.pointer (some ⟨p, 0, none⟩)] w fun e w' => e = .returned (.tuple #[.int .i64 x, .bool true]) ∧ ∃ n, w' = w.drewN n := by
  obtain ⟨a, cap, c0, c1, c2, hf, -, hr, -⟩ := hd.open
  obtain ⟨b, rfl, hx⟩ := ints_cell hr 0 (by rw [h0]; simp)
  have hx' : w.cell? ⟨b, 0, none⟩ = some (.int .i64 x) := by
    rw [hx]
    simp [h0]
  have hl := hd.len
  rw [h0] at c2 hl
  dsimp only [List.length_cons] at c2 hl
  clear hd h0 hr hx
  go_enter Try.func11, Try.ntmps11
  go_wp2
  go_ret2
  exact ⟨rfl, 0, rfl⟩

set_option maxHeartbeats 1000000 in
theorem batClear_calls (B p : Nat) (g : Option Nat) (D : BatD) (w : World) (hd : IsBat w B p g D) :
    Calls Try.prog 9 #[.pointer (some ⟨p, 0, none⟩)] w fun e w' => e = .returned (.tuple #[]) ∧ IsBat w' B p none ⟨D.size, D.room, []⟩ ∧ Touch (fun k => k = p) w w' := by
  obtain ⟨a, cap, c0, c1, c2, hf, -, -, hp⟩ := hd.open
  have f2 := hf 2
  have Hd := hide hd
  have Hp := hide hp
  clear hd hf hp
  go_enter Try.func9, Try.ntmps9
  go_wp2
  go_end0
  have hd := Hd.out
  exact ⟨rfl, ⟨⟨hd.ok.low, hd.ok.fits, hd.ok.high, by have := hd.ok.low; have := hd.ok.fits; simp; omega⟩, hd.low, .slice none 0 0, rfl, by simpa using setAt Hp.out (j := 2) _, World.ownsRow_nil _ _ _ _⟩, touch_set _ _ _ rfl⟩

set_option maxRecDepth 100000 in
set_option maxHeartbeats 2000000 in
theorem batTwin_calls (B p : Nat) (g : Option Nat) (D : BatD) (w : World) (hd : IsBat w B p g D) :
    Calls Try.prog 10 #[.pointer (some ⟨p, 0, none⟩)] w fun e w' => e = .returned (.pointer (some ⟨w.heap.size, 0, none⟩)) ∧ ∃ g', IsBat w' w.heap.size w.heap.size g' D ∧ Below w.heap.size w w' := by
  obtain ⟨a, cap, c0, c1, c2, hf, hv, hr, hp⟩ := hd.open
  have hl := hd.len
  have Hd := hide hd
  have Hr := hide hr
  have Hp := hide hp
  clear hd hr hp hv hf
  have c2' := fun o => Lib.cell?_alloc_some o c2
  have HB : Below w.heap.size w (w.alloc (.cells #[.int .i64 D.size, .int .i64 D.room, .slice a D.L.length cap] 42)) := (Below.refl _ w).alloc (Nat.le_refl _) _
  have hnew := World.alloc_heap_new w (.cells #[.int .i64 D.size, .int .i64 D.room, .slice a D.L.length cap] 42)
  obtain ⟨W0, hW0⟩ : ∃ W0, w.alloc (.cells #[.int .i64 D.size, .int .i64 D.room, .slice a D.L.length cap] 42) = W0 := ⟨_, rfl⟩
  have hsz : W0.heap.size = w.heap.size + 1 := by rw [← hW0]; simp
  rw [hW0] at HB hnew
  have C := hide (cloneInts_calls B _ D.L W0 (ownsRow_of_heap Hr.out fun k e => HB.block k (Hr.out.lt k e).2) (by omega))
  have HW := hide hW0
  have Hn := hide hnew
  clear hW0 hnew
  go_enter Try.func10, Try.ntmps10
  go_wp2_with fail
  rw [HW.out]
  refine C.out.mono ?_
  rintro e w1 ⟨v', rfl, hown, hB1⟩
  have hp1 := (hB1.block w.heap.size (by omega)).trans Hn.out
  have d2 := cellsAt hp1 2
  simp only [List.getElem?_toArray, List.getElem?_cons_zero, List.getElem?_cons_succ] at d2
  have k2 := frozenAt hp1 2
  have hs1 := hB1.size
  obtain ⟨a', cap', rfl⟩ := ownsRow_slice hown
  have Ho := hide hown
  have Hp1 := hide hp1
  have HB1 := hide hB1
  clear hown hp1 c0 c1 c2 c2' C HW Hn hB1
  go_wp2
  go_ret
  refine ⟨rfl, (Value.slice a' D.L.length cap').ownBlock, ⟨Hd.out.ok, Nat.le_refl _, .slice a' D.L.length cap', rfl, ?_, ?_⟩, ?_⟩
  · simpa using setAt (j := 2) Hp1.out (.slice a' D.L.length cap')
  · refine ownsRow_low (ownsRow_of_heap Ho.out fun k e => Below.heap_setCell _ _ _ _ fun e' => ?_) (show w.heap.size ≤ W0.heap.size by omega)
    have := (Ho.out.lt k e).1
    have e2 : k = w.heap.size := e'
    omega
  · exact (HB.trans (HB1.out.mono HB.size)).setCell (p := ⟨w.heap.size, 2, none⟩) (Nat.le_refl _) _

/-- A number is put behind the others: memory. -/
theorem add_mem {w w2 : World} {B p : Nat} {g : Option Nat} {D : BatD} {x : Int} {a : Option Addr} {cap g1 cap1 : Nat} {o : Obj} (hd : IsBat w B p g D)
    (hv : (Value.slice a D.L.length cap).ownBlock = g) (hp : w.heap[p]? = some (.cells #[.int .i64 D.size, .int .i64 D.room, .slice a D.L.length cap] 42 (0, 0)))
    (hr : w.ownsRow B 3 1 (.slice a D.L.length cap) D.L.length (D.L.map (Value.int .i64)))
    (hown : w2.ownsRow B 3 1 (.slice (some ⟨g1, 0, none⟩) (D.L.length + 1) cap1) (D.L.length + 1) (D.L.map (Value.int .i64) ++ [.int .i64 x])) (hgrow : (w.alloc o).grownBy w2 (Value.slice a D.L.length cap).ownBlock)
    (hat : (Value.slice a D.L.length cap).ownBlock = some g1 ∨ g1 = w.heap.size + 1) (hroom : (D.L.length : Int) < D.room) :
    w2.heap[p]? = some (.cells #[.int .i64 D.size, .int .i64 D.room, .slice a D.L.length cap] 42 (0, 0)) ∧
    IsBat (w2.setCell ⟨p, 2, none⟩ (.slice (some ⟨g1, 0, none⟩) (D.L.length + 1) cap1)) B p (some g1) ⟨D.size, D.room, D.L ++ [x]⟩ ∧
    Touch (onBat p g) w (w2.setCell ⟨p, 2, none⟩ (.slice (some ⟨g1, 0, none⟩) (D.L.length + 1) cap1)) ∧ (g = some g1 ∨ w.heap.size ≤ g1) := by
  have hlt := ltAt hp
  have hne : some p ≠ (Value.slice a D.L.length cap).ownBlock := row_not hr hp (by decide)
  have hp2 : w2.heap[p]? = some (.cells #[.int .i64 D.size, .int .i64 D.room, .slice a D.L.length cap] 42 (0, 0)) :=
    (hgrow.block p (by simp; omega) hne).trans ((Below.heap_alloc _ _ _ hlt).trans hp)
  have hg1 : g = some g1 ∨ w.heap.size ≤ g1 := by
    rcases hat with e | e
    · exact .inl (hv.symm.trans e)
    · exact .inr (by omega)
  have hpg : g1 ≠ p := fun e => by
    rcases hg1 with h | h
    · rw [← hv, e] at h; exact hne h.symm
    · omega
  refine ⟨hp2, ⟨⟨hd.ok.low, hd.ok.fits, hd.ok.high, by simp; omega⟩, hd.low, .slice (some ⟨g1, 0, none⟩) (D.L.length + 1) cap1, rfl, ?_, ?_⟩, ?_, hg1⟩
  · simpa using setAt (j := 2) hp2 (.slice (some ⟨g1, 0, none⟩) (D.L.length + 1) cap1)
  · have e1 : (D.L ++ [x]).length = D.L.length + 1 := by simp
    have e2 : (D.L ++ [x]).map (Value.int .i64) = D.L.map (Value.int .i64) ++ [.int .i64 x] := by simp
    dsimp only
    rw [e1, e2]
    exact ownsRow_of_heap hown fun k hk => by
      obtain rfl : g1 = k := by simpa [Value.ownBlock] using hk
      exact Below.heap_setCell _ _ _ _ hpg
  · refine Touch.set ?_ _ _ (.inl rfl)
    exact ((Touch.refl (onBat p g) w).alloc o).next (S1 := fun k => (Value.slice a D.L.length cap).ownBlock = some k) ⟨hgrow.os, hgrow.tape, hgrow.output, hgrow.size, fun k hk hn => hgrow.block k hk fun e => hn e.symm⟩ fun i _ e => .inr (hv ▸ e)

set_option maxRecDepth 100000 in
set_option maxHeartbeats 2000000 in
theorem batAdd_full (B p : Nat) (g : Option Nat) (D : BatD) (x : Int) (hx : D.room ≤ (D.L.length : Int)) (w : World) (hd : IsBat w B p g D) :
    Calls Try.prog 7 #[.pointer (some ⟨p, 0, none⟩), .int .i64 x] w fun e w' => e = .returned (.int .i64 6) ∧ ∃ n, w' = w.drewN n := by
  obtain ⟨a, cap, c0, c1, c2, hf, -, -, -⟩ := hd.open
  have hl := hd.len
  clear hd
  go_enter Try.func7, Try.ntmps7
  go_wp2
  go_quiet (fail)
  go_wp2
  go_ret
  exact ⟨rfl, _, rfl⟩

set_option maxRecDepth 100000 in
set_option maxHeartbeats 2000000 in
theorem batAdd_calls (B p : Nat) (g : Option Nat) (D : BatD) (x : Int) (hx : (D.L.length : Int) < D.room) (w : World) (hd : IsBat w B p g D) :
    Calls Try.prog 7 #[.pointer (some ⟨p, 0, none⟩), .int .i64 x] w fun e w' => e = .returned (.int .i64 0) ∧ ∃ g', IsBat w' B p (some g') ⟨D.size, D.room, D.L ++ [x]⟩ ∧ Touch (onBat p g) w w' ∧ (g = some g' ∨ w.heap.size ≤ g') := by
  obtain ⟨i0, hi0, hz0, hz1, hz2⟩ := info_parts Try.info3
  obtain ⟨a, cap, c0, c1, c2, hf, hv, hr, hp⟩ := hd.open
  have hl := hd.len
  have f2 := hf 2
  have Hd := hide hd
  have Hr := hide hr
  have Hp := hide hp
  have Hv := hide hv
  have hB := hd.low
  have hpl := hd.lt
  clear hd hf hr hp hv
  go_enter Try.func7, Try.ntmps7
  go_wp2_with fail
  go_quiet (fail)
  have hB0 : Below w.heap.size w (w.drewN nq) := drewsB _ _
  have Hd0 := hide (Hd.out.new hB0)
  have Hr0 := hide (ownsRow_of_heap Hr.out fun k e => hB0.block k (Hr.out.lt k e).2)
  have Hp0 := hide ((hB0.block p hpl).trans Hp.out)
  have HB0 := hide hB0
  have hb2 : B ≤ w.heap.size + 1 := by omega
  clear Hd Hr Hp hB0
  go_wp2_with (at_builtin; refine wpList_append_own_at _ rfl (.tmp 19) _ 28 rfl B 3 i0 (.int .i64 0) 1 8 Try.underlying28 hi0 hz0 hz1 hz2 rfl (by decide) _ _ _ rfl (World.ownsRow.alloc Hr0.out _) ⟨_, 0, none⟩ 1 1 [.int .i64 x] rfl rfl (cell_one_at (by simp)) (by intro u hu; simp at hu; subst hu; rfl) (by unfold maxLen; omega) (by omega) (by simpa using hb2) ?_; intro v1 w1 hown1 hgrow1 _ hat1; obtain ⟨g1, cap1, rfl⟩ := ownsRow_succ hown1; obtain ⟨hp2, hd2, ht2, hg2⟩ := add_mem (x := x) Hd0.out Hv.out Hp0.out Hr0.out hown1 hgrow1 (by rcases hat1 with e | e; exact .inl (e.symm.trans rfl); exact .inr (by simpa [Value.ownBlock] using e)) hx; have e2 := cellsAt hp2 2; have l2 := frozenAt hp2 2; simp only [List.getElem?_toArray, List.getElem?_cons_zero, List.getElem?_cons_succ] at e2; have Hd2 := hide hd2; have Ht2 := hide ht2; have Hg2 := hide hg2; clear hown1 hgrow1 hat1 hp2 hd2 ht2 hg2)
  go_ret
  exact ⟨rfl, g1, Hd2.out, Ht2.out.of_touch HB0.out, Hg2.out⟩

end Go.Proofs.Ytpkjkhpnhcbciaa
