/- rec's Before and Same. Own work; no statement. -/
import Derived.Test.YthpahkcncjieiaaDoorR2
import Derived.StillTailTactics
set_option linter.unusedSimpArgs false
set_option linter.unusedVariables false
namespace Go.Proofs.YthpahkcncjieiaaDoor
open Go.RowKit

/-- A region whose head only reads, and whose tail comes in one order. -/
theorem region_tail {P : Program} {id : Nat} {Q : Exit → Act → World → Prop} {a : Act} {w : World} {l : List Oper} (n : Nat) (hm : P.follows .mixedOrders = true) (hB : Region.lexTailB .any l.toArray n = true)
    (h : wpStill P l.toArray w.drew (fun a' => wpList P l.toArray Q (l.drop n) a' w.drew) (l.take n) a) : (Code.region id l.toArray true).wp P Q a w := wp_region_still_tail n hm hB h

theorem str_ne {a b : ByteArray} (h : ¬ a = b) : (a.toList == b.toList) = false := by
  rw [beq_eq_false_iff_ne, Lib.toList_data, Lib.toList_data]
  intro e
  exact h (ByteArray.ext (Array.toList_inj.1 e))

def sameR (a b : RecD) : Bool := decide (a.site = b.site) && (decide (a.seq = b.seq) && (decide (a.key = b.key) && (decide (a.val = b.val) && everyB eqB a.dep b.dep)))

def beforeR (a b : RecD) : Bool := decide (a.site < b.site ∨ a.site = b.site ∧ a.seq < b.seq)

theorem before_num (x y x' y' : Int) : decide ((if Lib.compareInt x y = 0 then Lib.compareInt x' y' else Lib.compareInt x y) < 0) = decide (x < y ∨ x = y ∧ x' < y') := by
  unfold Lib.compareInt
  by_cases h : x < y
  · simp [h]
  · by_cases h2 : y < x
    · have : ¬ x = y := by omega
      simp [h, h2, this]
    · have e : x = y := by omega
      subst e
      by_cases h3 : x' < y'
      · simp [h3]
      · by_cases h4 : y' < x' <;> simp [h3, h4]

theorem orNew_calls (x y : Int) (b : Nat) (c : Int) (hc : (if x = 0 then y else x) = c) (w : World) (hb : b = w.heap.size) :
    Calls Tryd.prog 30 #[.slice (some ⟨b, 0, none⟩) 2 2] (w.alloc (.cells #[.int .i64 x, .int .i64 y] 3)).drew fun e w' => e = .returned (.int .i64 c) ∧ w' = (w.alloc (.cells #[.int .i64 x, .int .i64 y] 3)).drew := by
  subst hb
  subst hc
  exact orInt_calls x y w.heap.size _ (by rw [show ∀ (u : World) p, u.drew.cell? p = u.cell? p from fun _ _ => rfl, World.cell?_alloc_at _ _ _ _ rfl]; rfl) (by rw [show ∀ (u : World) p, u.drew.cell? p = u.cell? p from fun _ _ => rfl, World.cell?_alloc_at _ _ _ _ rfl]; rfl)

set_option maxRecDepth 10000 in
set_option maxHeartbeats 2000000 in
theorem before_calls (va vb : Value) (a b : RecD) (w : World) (ha : IsRec w va a) (hb : IsRec w vb b) :
    Calls Tryd.prog 14 #[va, vb] w fun e w' => e = .returned (.bool (beforeR a b)) ∧ Below w.heap.size w w' := by
  have hbf := before_num a.site b.site a.seq b.seq
  obtain ⟨c1, hc1⟩ : ∃ c1, Lib.compareInt a.site b.site = c1 := ⟨_, rfl⟩
  obtain ⟨c2, hc2⟩ : ∃ c2, Lib.compareInt a.seq b.seq = c2 := ⟨_, rfl⟩
  obtain ⟨c, hc⟩ : ∃ c, (if c1 = 0 then c2 else c1) = c := ⟨_, rfl⟩
  rw [hc1, hc2, hc] at hbf
  unfold beforeR
  rw [← hbf]
  have C1 := hide (fun w => Tryd.cmp_Compare_int a.site b.site w)
  have C2 := hide (fun w => Tryd.cmp_Compare_int a.seq b.seq w)
  rw [hc1] at C1
  rw [hc2] at C2
  have Hc := hide hc
  clear hc1 hc2 hbf hc
  obtain ⟨site, seq, dep, key, val⟩ := a
  obtain ⟨a, cap, rfl, hn⟩ := ha
  obtain ⟨site', seq', dep', key', val'⟩ := b
  obtain ⟨a', cap', rfl, hn'⟩ := hb
  dsimp only at *
  clear hn hn'
  go_enter Tryd.func14, Tryd.ntmps14
  go_wp2
  refine region_tail 10 (by kernel_rfl) (by kernel_rfl) ?_
  simp only [List.take_succ_cons, List.take_zero, List.drop_succ_cons, List.drop_zero]
  still_step
  still_step
  still_step
  still_step
  still_call (C1.out _)
  still_step
  still_step
  still_step
  still_step
  still_call (C2.out _)
  refine wpStill_nil ?_
  go_wp2_with (go_at_call 30; refine (orNew_calls c1 c2 _ c Hc.out _ ?_).mono ?_; simp; rintro e w' ⟨rfl, rfl⟩)
  go_ret
  exact ⟨rfl, (((box_below w _).alloc (by simp) _).alloc (by simp; omega) _).drew⟩

set_option maxHeartbeats 2000000 in
theorem recSame_calls (va vb : Value) (a b : RecD) (w : World) (ha : IsRec w va a) (hb : IsRec w vb b) (hla : a.dep.length ≤ 1099511627776) (hlb : b.dep.length ≤ 1099511627776) :
    Calls Tryd.prog 12 #[va, vb] w fun e w' => e = .returned (.bool (sameR a b)) ∧ Below w.heap.size w w' := by
  obtain ⟨c, hc⟩ : ∃ c, sameR a b = c := ⟨_, rfl⟩
  rw [hc]
  unfold sameR at hc
  obtain ⟨site, seq, dep, key, val⟩ := a
  obtain ⟨a, cap, rfl, hn⟩ := ha
  obtain ⟨site', seq', dep', key', val'⟩ := b
  obtain ⟨a', cap', rfl, hn'⟩ := hb
  dsimp only at *
  have HB := hide ((box_below w (.cells #[.int .i64 site, .int .i64 seq, .slice a dep.length cap, .string key, .string val] 30)).alloc (by simp) (.cells #[.int .i64 site', .int .i64 seq', .slice a' dep'.length cap', .string key', .string val'] 30))
  have Hn := hide (hn.below HB.out)
  have Hn' := hide (hn'.below HB.out)
  have Hc := hide hc
  clear hc hn hn'
  by_cases h0 : site = site'
  case neg =>
    have e : c = false := by rw [← Hc.out, decide_eq_false h0]; simp
    subst e
    have h0' : (site == site') = false := by simp [h0]
    clear h0 Hc
    clear Hn Hn'
    go_enter Tryd.func12, Tryd.ntmps12
    go_wp2
    go_ret
    exact ⟨rfl, HB.out⟩
  subst h0
  by_cases h1 : seq = seq'
  case neg =>
    have e : c = false := by rw [← Hc.out, decide_eq_false h1]; simp
    subst e
    have h1' : (seq == seq') = false := by simp [h1]
    clear h1 Hc
    clear Hn Hn'
    go_enter Tryd.func12, Tryd.ntmps12
    go_wp2
    go_ret
    exact ⟨rfl, HB.out⟩
  subst h1
  by_cases h2 : key = key'
  case neg =>
    have e : c = false := by rw [← Hc.out, decide_eq_false h2]; simp
    subst e
    have h2' := str_ne h2
    clear h2 Hc
    clear Hn Hn'
    go_enter Tryd.func12, Tryd.ntmps12
    go_wp2
    go_ret
    exact ⟨rfl, HB.out⟩
  subst h2
  by_cases h3 : val = val'
  case neg =>
    have e : c = false := by rw [← Hc.out, decide_eq_false h3]; simp
    subst e
    have h3' := str_ne h3
    clear h3 Hc
    clear Hn Hn'
    go_enter Tryd.func12, Tryd.ntmps12
    go_wp2
    go_ret
    exact ⟨rfl, HB.out⟩
  subst h3
  have e : everyB eqB dep dep' = c := by rw [← Hc.out]; simp
  clear Hc
  replace e := hide e
  go_enter Tryd.func12, Tryd.ntmps12
  go_wp2_with (go_at_call 29; refine (same_calls _ _ dep dep' _ Hn.out Hn'.out hla hlb).mono ?_; rintro e w' ⟨rfl, rfl⟩; rw [e.out])
  go_ret
  exact ⟨rfl, HB.out⟩

end Go.Proofs.YthpahkcncjieiaaDoor
