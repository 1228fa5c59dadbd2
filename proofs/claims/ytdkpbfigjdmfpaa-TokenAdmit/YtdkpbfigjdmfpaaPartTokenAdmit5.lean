/- Own work: the parts TKs of the proof, laid together. -/
import Derived.Test.YtdkpbfigjdmfpaaPartTokenChain2
import Derived.Test.YtdkpbfigjdmfpaaPartTokenChain10
/- The reference's SameRec, beside drafts. Own work; no statement. -/
set_option linter.unusedSimpArgs false
set_option linter.unusedVariables false
namespace Go.Proofs.Ytdkpbfigjdmfpaa
open Go.RowKit

set_option maxHeartbeats 2000000 in
theorem sameRec9_calls (va vb : Value) (a b : RecD) (w : World) (ha : IsRec w va a) (hb : IsRec w vb b) (hla : a.dep.length ≤ 1099511627776) (hlb : b.dep.length ≤ 1099511627776) :
    Calls Try.prog 27 #[va, vb] w fun e w' => e = .returned (.bool (sameR a b)) ∧ Below w.heap.size w w' := by
  obtain ⟨c, hc⟩ : ∃ c, sameR a b = c := ⟨_, rfl⟩
  rw [hc]
  unfold sameR at hc
  obtain ⟨site, seq, dep, key, val⟩ := a
  obtain ⟨a, cap, rfl, hn⟩ := ha
  obtain ⟨site', seq', dep', key', val'⟩ := b
  obtain ⟨a', cap', rfl, hn'⟩ := hb
  dsimp only at *
  have HB := hide ((box_below w (.cells #[.int .i64 site, .int .i64 seq, .slice a dep.length cap, .string key, .string val] 44)).alloc (by simp) (.cells #[.int .i64 site', .int .i64 seq', .slice a' dep'.length cap', .string key', .string val'] 44))
  have Hn := hide (hn.below HB.out)
  have Hn' := hide (hn'.below HB.out)
  have Hc := hide hc
  clear hc hn hn'
  obtain ⟨sv, hsv⟩ : ∃ sv, everyB eqB dep dep' = sv := ⟨_, rfl⟩
  have Hsv := hide hsv
  clear hsv
  by_cases h0 : site = site'
  case neg =>
    have e : c = false := by rw [← Hc.out, decide_eq_false h0]; simp
    subst e
    have h0' : (site == site') = false := by simp [h0]
    clear h0 Hc
    go_enter Try.func27, Try.ntmps27
    go_wp2_with (go_at_call 25; refine (refSame_calls _ _ dep dep' _ Hn.out Hn'.out hla hlb).mono ?_; rintro e w' ⟨rfl, rfl⟩; rw [Hsv.out])
    go_ret
    exact ⟨rfl, HB.out⟩
  subst h0
  by_cases h1 : seq = seq'
  case neg =>
    have e : c = false := by rw [← Hc.out, decide_eq_false h1]; simp
    subst e
    have h1' : (seq == seq') = false := by simp [h1]
    clear h1 Hc
    go_enter Try.func27, Try.ntmps27
    go_wp2_with (go_at_call 25; refine (refSame_calls _ _ dep dep' _ Hn.out Hn'.out hla hlb).mono ?_; rintro e w' ⟨rfl, rfl⟩; rw [Hsv.out])
    go_ret
    exact ⟨rfl, HB.out⟩
  subst h1
  cases sv with
  | false =>
    have e : c = false := by rw [← Hc.out, Hsv.out]; simp
    subst e
    clear Hc
    go_enter Try.func27, Try.ntmps27
    go_wp2_with (go_at_call 25; refine (refSame_calls _ _ dep dep' _ Hn.out Hn'.out hla hlb).mono ?_; rintro e w' ⟨rfl, rfl⟩; rw [Hsv.out])
    go_ret
    exact ⟨rfl, HB.out⟩
  | true =>
    by_cases h3 : key = key'
    case neg =>
      have e : c = false := by rw [← Hc.out, decide_eq_false h3]; simp
      subst e
      have h3' := str_ne h3
      clear h3 Hc
      go_enter Try.func27, Try.ntmps27
      go_wp2_with (go_at_call 25; refine (refSame_calls _ _ dep dep' _ Hn.out Hn'.out hla hlb).mono ?_; rintro e w' ⟨rfl, rfl⟩; rw [Hsv.out])
      go_ret
      exact ⟨rfl, HB.out⟩
    subst h3
    by_cases h4 : val = val'
    case neg =>
      have e : c = false := by rw [← Hc.out, decide_eq_false h4]; simp
      subst e
      have h4' := str_ne h4
      clear h4 Hc
      go_enter Try.func27, Try.ntmps27
      go_wp2_with (go_at_call 25; refine (refSame_calls _ _ dep dep' _ Hn.out Hn'.out hla hlb).mono ?_; rintro e w' ⟨rfl, rfl⟩; rw [Hsv.out])
      go_ret
      exact ⟨rfl, HB.out⟩
    subst h4
    have e : c = true := by rw [← Hc.out, Hsv.out]; simp
    subst e
    clear Hc
    go_enter Try.func27, Try.ntmps27
    go_wp2_with (go_at_call 25; refine (refSame_calls _ _ dep dep' _ Hn.out Hn'.out hla hlb).mono ?_; rintro e w' ⟨rfl, rfl⟩; rw [Hsv.out])
    go_ret
    exact ⟨rfl, HB.out⟩

end Go.Proofs.Ytdkpbfigjdmfpaa
