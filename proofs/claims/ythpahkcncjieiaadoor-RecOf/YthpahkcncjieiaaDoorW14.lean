/- vec's Parse: a text as a vector. Own work; no statement. -/
import Derived.Test.YthpahkcncjieiaaDoorW13
set_option linter.unusedSimpArgs false
set_option linter.unusedVariables false
namespace Go.Proofs.YthpahkcncjieiaaDoor
open Go.RowKit Go.Shelf

/-- What is between the brackets. -/
def innerL (s : List UInt8) : List UInt8 := Lib.trimSuffix (Lib.trimPrefix s [91]) [93]
def bracketB (s : List UInt8) : Bool := Lib.hasPrefix s [91] && Lib.hasSuffix (Lib.trimPrefix s [91]) [93]
/-- A text as a vector and the error's number. -/
def parseL (s : List UInt8) : List Int × Int := if bracketB s then (if innerL s = [] then ([], 0) else parseN (splitL (innerL s))) else ([], 2)

theorem trimPrefix_length (s p : List UInt8) : (Lib.trimPrefix s p).length ≤ s.length := by unfold Lib.trimPrefix; split <;> simp
theorem trimSuffix_length (s p : List UInt8) : (Lib.trimSuffix s p).length ≤ s.length := by unfold Lib.trimSuffix; split <;> simp

set_option maxHeartbeats 1000000 in
theorem parseO_calls (s : ByteArray) (w : World) (hs : s.size ≤ 1099511627776) :
    Calls Tryd.prog 23 #[.string s] w fun e w' => ∃ v, e = .returned (.tuple #[v, .int .i64 (parseL s.data.toList).2]) ∧ w'.ownsRow w.heap.size 3 1 v (parseL s.data.toList).1.length ((parseL s.data.toList).1.map (Value.int .i64)) ∧ Below w.heap.size w w' := by
  have hl1 := trimPrefix_length s.data.toList [91]
  have hl2 := trimSuffix_length (Lib.trimPrefix s.data.toList [91]) [93]
  rw [← Lib.size_eq] at hl1
  obtain ⟨pn, hpn⟩ : ∃ pn, parseL s.data.toList = pn := ⟨_, rfl⟩
  have hdef : parseL s.data.toList = if bracketB s.data.toList then (if innerL s.data.toList = [] then ([], 0) else parseN (splitL (innerL s.data.toList))) else ([], 2) := rfl
  rw [hpn] at hdef ⊢
  clear hpn
  unfold bracketB innerL at hdef
  have c1 := hide (Tryd.strings_CutPrefix s ⟨#[91]⟩ w)
  simp only [show (⟨#[91]⟩ : ByteArray).data.toList = [91] from rfl] at c1
  generalize hb : Lib.trimPrefix s.data.toList [91] = b1 at *
  generalize ho : Lib.hasPrefix s.data.toList [91] = o1 at *
  have c2 := hide (Tryd.strings_CutSuffix ⟨b1.toArray⟩ ⟨#[93]⟩ w (by simp [ByteArray.size]; omega))
  simp only [show (⟨#[93]⟩ : ByteArray).data.toList = [93] from rfl, show (⟨b1.toArray⟩ : ByteArray).data.toList = b1 from rfl] at c2
  generalize hb2 : Lib.trimSuffix b1 [93] = b2 at *
  generalize ho2 : Lib.hasSuffix b1 [93] = o2 at *
  have Hdef := hide hdef
  clear hb ho hb2 ho2 hdef
  cases o1 with
  | false =>
    have e : pn = ([], 2) := Hdef.out
    subst e
    go_enter Tryd.func23, Tryd.ntmps23
    go_wp2_with (first | (go_at_call 43; refine c1.out.mono ?_; rintro e w' ⟨rfl, rfl⟩) | (go_at_call 45; refine c2.out.mono ?_; rintro e w' ⟨rfl, rfl⟩))
    go_ret2
    exact ⟨_, rfl, World.ownsRow_nil _ _ _ _, Below.refl _ _⟩
  | true =>
    cases o2 with
    | false =>
      have e : pn = ([], 2) := Hdef.out
      subst e
      go_enter Tryd.func23, Tryd.ntmps23
      go_wp2_with (first | (go_at_call 43; refine c1.out.mono ?_; rintro e w' ⟨rfl, rfl⟩) | (go_at_call 45; refine c2.out.mono ?_; rintro e w' ⟨rfl, rfl⟩))
      go_ret2
      exact ⟨_, rfl, World.ownsRow_nil _ _ _ _, Below.refl _ _⟩
    | true =>
      cases b2 with
      | nil =>
        have e : pn = ([], 0) := Hdef.out
        subst e
        go_enter Tryd.func23, Tryd.ntmps23
        go_wp2_with (first | (go_at_call 43; refine c1.out.mono ?_; rintro e w' ⟨rfl, rfl⟩) | (go_at_call 45; refine c2.out.mono ?_; rintro e w' ⟨rfl, rfl⟩))
        go_ret2
        exact ⟨_, rfl, World.ownsRow_nil _ _ _ _, Below.refl _ _⟩
      | cons x b2 =>
        have e : pn = parseN (splitL (x :: b2)) := Hdef.out
        clear Hdef
        generalize hb3 : x :: b2 = b3 at *
        have hne : b3.isEmpty = false := by rw [← hb3]; rfl
        have hpc := hide (parseNumbersO_calls b3 w (by omega))
        rw [← e] at hpc
        clear hb3 e
        go_enter Tryd.func23, Tryd.ntmps23
        go_wp2_with (first | (go_at_call 43; refine c1.out.mono ?_; rintro e w' ⟨rfl, rfl⟩) | (go_at_call 45; refine c2.out.mono ?_; rintro e w' ⟨rfl, rfl⟩) | (go_at_call 46; refine hpc.out.mono ?_; rintro e w' ⟨v, rfl, hv, hB⟩))
        go_ret2
        exact ⟨_, rfl, hv, hB⟩

theorem parse_calls (s : ByteArray) (w : World) (hs : s.size ≤ 1099511627776) :
    Calls Tryd.prog 23 #[.string s] w fun e w' => ∃ v, e = .returned (.tuple #[v, .int .i64 (parseL s.data.toList).2]) ∧ IsNums .i64 w' v (parseL s.data.toList).1 ∧ Below w.heap.size w w' :=
  (parseO_calls s w hs).mono fun _ _ ⟨v, he, ho, hb⟩ => ⟨v, he, IsNums.of_row ho, hb⟩

end Go.Proofs.YthpahkcncjieiaaDoor
