/- strings.SplitSeq at a blank: the pieces of a text, as long as they are asked. Own work; no statement. -/
import Derived.Test.YtndhkbmgpjjepaaDoorRange
import Derived.Lib.Bytealg
set_option linter.unusedSimpArgs false
set_option linter.unusedVariables false
namespace Go.Proofs.YtndhkbmgpjjepaaDoor
open Go.RowKit Go.Shelf

attribute [local go_sem] Oper.semAt_some

/-- The pieces of a text between blanks. -/
def splitL : List UInt8 → List (List UInt8)
  | [] => [[]]
  | c :: r => if c = 32 then [] :: splitL r else
    match splitL r with
    | [] => [[c]]
    | x :: xs => (c :: x) :: xs

theorem splitL_ne (l : List UInt8) : splitL l ≠ [] := by
  cases l with
  | nil => simp [splitL]
  | cons c r =>
    simp only [splitL]
    split
    · simp
    · split <;> simp

theorem splitL_none : ∀ (l : List UInt8), Lib.indexByte l 32 = -1 → splitL l = [l]
  | [], _ => rfl
  | c :: r, h => by
    simp only [Lib.indexByte] at h
    by_cases hc : c = 32
    · subst hc; simp at h
    · have hc' : (c == 32) = false := by simp [hc]
      rw [hc'] at h
      simp only [Bool.false_eq_true, if_false] at h
      have hr : Lib.indexByte r 32 = -1 := by
        by_cases e : Lib.indexByte r 32 = -1
        · exact e
        · have e' : (Lib.indexByte r 32 == -1) = false := by simp [e]
          rw [e'] at h
          simp only [Bool.false_eq_true, if_false] at h
          have := Lib.indexByte_ge r 32
          omega
      simp only [splitL]
      rw [if_neg hc, splitL_none r hr]

theorem splitL_some : ∀ (l : List UInt8) (i : Nat), Lib.indexByte l 32 = i → i < l.length ∧ splitL l = l.take i :: splitL (l.drop (i + 1))
  | [], i, h => by simp [Lib.indexByte] at h
  | c :: r, i, h => by
    simp only [Lib.indexByte] at h
    by_cases hc : c = 32
    · subst hc
      simp at h
      have h0 : i = 0 := by omega
      subst h0
      simp [splitL]
    · have hc' : (c == 32) = false := by simp [hc]
      rw [hc'] at h
      simp only [Bool.false_eq_true, if_false] at h
      by_cases e : Lib.indexByte r 32 = -1
      · rw [e] at h; simp at h
      · have e' : (Lib.indexByte r 32 == -1) = false := by simp [e]
        rw [e'] at h
        simp only [Bool.false_eq_true, if_false] at h
        have := Lib.indexByte_ge r 32
        cases i with
        | zero => omega
        | succ i =>
          obtain ⟨h1, h2⟩ := splitL_some r i (by omega)
          refine ⟨by simp; omega, ?_⟩
          simp only [splitL]
          rw [if_neg hc, h2]
          simp

set_option maxHeartbeats 400000 in
theorem splitSeq_calls (s : ByteArray) (w : World) :
    Calls Tryd.prog 37 #[.string s, .string ⟨#[32]⟩] w fun e w' => e = .returned (.func (.func 49) #[] #[.pointer (some ⟨w.heap.size + 1, 0, none⟩), .pointer (some ⟨w.heap.size, 0, none⟩), .pointer (some ⟨w.heap.size + 2, 0, none⟩)]) ∧
      w' = ((w.alloc (.cells #[.string s] 9)).alloc (.cells #[.string ⟨#[32]⟩] 9)).alloc (.cells #[.int .i64 0] 3) := by
  have hmf : ∀ (fn : Fn) (first cap : Array Value) (w : World), (Instr.makeFunc fn first cap).run Tryd.prog w = .ok (.func fn first cap) w := fun _ _ _ _ => rfl
  go_enter Tryd.func37, Tryd.ntmps37
  go_wp2
  go_ret
  exact ⟨rfl, rfl⟩

/-- A text that is not too long for any count. -/
abbrev Word : Type := { x : List UInt8 // x.length ≤ 1099511627776 }

/-- The three boxes that the sequence goes by. -/
def IsSplit (W : World) (b : Nat) (s : List UInt8) : Prop := Boxed W b 9 (.string ⟨s.toArray⟩) ∧ Boxed W (b + 1) 9 (.string ⟨#[32]⟩) ∧ Boxed W (b + 2) 3 (.int .i64 0)
def KeepsThree (b : Nat) (W W' : World) : Prop := W'.heap[b]? = W.heap[b]? ∧ W'.heap[b + 1]? = W.heap[b + 1]? ∧ W'.heap[b + 2]? = W.heap[b + 2]?
theorem keepsThree_t {b : Nat} {A B C : World} (h : KeepsThree b A B) (k : KeepsThree b B C) : KeepsThree b A C := ⟨k.1.trans h.1, k.2.1.trans h.2.1, k.2.2.trans h.2.2⟩
theorem keepsThree_b {b n : Nat} (hg : b + 2 < n) (W : World) (l : Nat) (o o' : Obj) (hl : n ≤ l) (h1 : W.heap[l]? = some o) (h2 : o.isCells = false) (h3 : o.isWalk = false) : KeepsThree b W (W.putObj l o') :=
  ⟨keepsRow_b (by omega) W l o o' hl h1 h2 h3, keepsRow_b (by omega) W l o o' hl h1 h2 h3, keepsRow_b hg W l o o' hl h1 h2 h3⟩
theorem IsSplit.keep {b : Nat} {W W' : World} {s : List UInt8} (h : IsSplit W b s) (k : KeepsThree b W W') : IsSplit W' b s := ⟨k.1.trans h.1, k.2.1.trans h.2.1, k.2.2.trans h.2.2⟩
theorem IsSplit.set {b : Nat} {W : World} {s : List UInt8} (h : IsSplit W b s) (s' : List UInt8) : IsSplit (W.setCell ⟨b, 0, none⟩ (.string ⟨s'.toArray⟩)) b s' :=
  ⟨h.1.set _, boxed_of_heap h.2.1 (Below.heap_setCell _ _ _ _ (show b + 1 ≠ b by omega)), boxed_of_heap h.2.2 (Below.heap_setCell _ _ _ _ (show b + 2 ≠ b by omega))⟩

def strLen (W : World) (b : Nat) : Nat := match W.cell? ⟨b, 0, none⟩ with | some (.string s) => s.size | _ => 0
theorem strLen_of {W : World} {b : Nat} {s : List UInt8} (h : IsSplit W b s) : strLen W b = s.length := by
  unfold strLen
  rw [h.1.cell]
  simp [ByteArray.size]

theorem extract_list (l : List UInt8) (i j : Nat) : (⟨l.toArray⟩ : ByteArray).extract i j = ⟨((l.drop i).take (j - i)).toArray⟩ := by
  apply ByteArray.ext
  simp [ByteArray.data_extract]
theorem extract_head (l : List UInt8) (i : Nat) : (⟨l.toArray⟩ : ByteArray).extract 0 i = ⟨(l.take i).toArray⟩ := by rw [extract_list]; simp
theorem extract_tail (l : List UInt8) (i j : Nat) (h : j = l.length) : (⟨l.toArray⟩ : ByteArray).extract i j = ⟨(l.drop i).toArray⟩ := by rw [extract_list, h, List.take_of_length_le (by simp)]

set_option maxRecDepth 100000 in
set_option maxHeartbeats 2000000 in
theorem split1_in (n : Nat) (hn : 1 ≤ n) (lp b : Nat) (s : List UInt8) (hlen : s.length ≤ 1099511627776) (J Jx : List Word → World → Prop)
    (hJ : ∀ pre A v, J pre A → J pre (A.setCell ⟨b, 0, none⟩ v))
    (hY : ∀ pre x W, J pre W → pre.length < (splitL s).length → YieldAt Fence.wide (n - 1) Tryd.prog lp #[.string ⟨x.1.toArray⟩] W fun e W' =>
      (e = .returned (.bool true) ∧ J (pre ++ [x]) W' ∧ KeepsThree b W W') ∨ (e = .returned (.bool false) ∧ Jx (pre ++ [x]) W'))
    (W : World) (hA : IsSplit W b s) (h0 : J [] W) :
    CallsIn Fence.wide n Tryd.prog 49 #[.func (.yield lp) #[] #[], .pointer (some ⟨b + 1, 0, none⟩), .pointer (some ⟨b, 0, none⟩), .pointer (some ⟨b + 2, 0, none⟩)] W fun e W' => (∃ v, e = .returned v) ∧
      ((∃ ys, ys.map (·.1) = splitL s ∧ J ys W') ∨ (∃ pre, pre.map (·.1) <+: splitL s ∧ Jx pre W')) := by
  refine callsIn_of_wp Tryd.func49 rfl trivial ?_ rfl
  simp only [Tryd.ntmps49, List.size_toArray, List.length_cons, List.length_nil, Nat.reduceAdd, Nat.reduceSub, Array.replicate_succ, Array.replicate_zero, List.push_toArray, List.append_toArray, List.nil_append, List.cons_append]
  have HY := hide hY
  have HJ := hide hJ
  clear hY hJ
  have q1 := hA.2.1.cell
  gi_wp2
  gi_loopw [7] (fun _ wr => ∃ (pre : List Word) (rest : List UInt8), splitL s = pre.map (·.1) ++ splitL rest ∧ rest.length ≤ 1099511627776 ∧ IsSplit wr b rest ∧ J pre wr) (fun _ wr => strLen wr b)
  case atStart => exact ⟨[], s, rfl, hlen, hA, h0⟩
  case round =>
    obtain ⟨pre, rest, hs, hl, hI, hJs⟩ := hrel
    replace hs := hide hs
    clear q1
    have c1 := hI.1.cell
    have c2 := hI.2.1.cell
    have c3 := hI.2.2.cell
    have f1 := hI.1.frozen
    by_cases hi : Lib.indexByte rest 32 = -1
    · have hsp := hide (splitL_none rest hi)
      have HI := hide hi
      clear hi
      obtain ⟨fn, tmps, assign, body, hy, hR⟩ := HY.out pre ⟨rest, hl⟩ wr hJs (by rw [hs.out, hsp.out]; simp)
      dsimp only at hy
      gi_wp2_with (refine ⟨trivial, ?_⟩; gi_at_call 51; refine ((callsIn_wide (n := _)).2 (Tryd.strings_Index_one ⟨rest.toArray⟩ 32 wr)).mono ?_; rintro e w' ⟨rfl, rfl⟩; rw [show (⟨rest.toArray⟩ : ByteArray).data.toList = rest from rfl, HI.out])
      refine hR.mono ?_
      rintro e W3 (⟨rfl, hJ3, hk3⟩ | ⟨rfl, hJx3⟩)
      · gi_wp2
        go_end0
        exact ⟨⟨_, rfl⟩, .inl ⟨_, by rw [hs.out, hsp.out]; simp, hJ3⟩⟩
      · gi_wp2
        go_end0
        exact ⟨⟨_, rfl⟩, .inr ⟨_, by rw [hs.out, hsp.out]; simp, hJx3⟩⟩
    · have hge := Lib.indexByte_ge rest 32
      obtain ⟨i, hi'⟩ := Int.eq_ofNat_of_zero_le (show 0 ≤ Lib.indexByte rest 32 by omega)
      obtain ⟨hil, hsp⟩ := splitL_some rest i hi'
      replace hsp := hide hsp
      have HI := hide hi'
      clear hi hi' hge
      have hilI : (i : Int) < (rest.length : Int) := by omega
      have hx1 := extract_head rest i
      obtain ⟨fn, tmps, assign, body, hy, hR⟩ := HY.out pre ⟨rest.take i, by rw [List.length_take]; omega⟩ wr hJs (by rw [hs.out, hsp.out]; simp)
      dsimp only at hy
      gi_wp2_with (refine ⟨trivial, ?_⟩; gi_at_call 51; refine ((callsIn_wide (n := _)).2 (Tryd.strings_Index_one ⟨rest.toArray⟩ 32 wr)).mono ?_; rintro e w' ⟨rfl, rfl⟩; rw [show (⟨rest.toArray⟩ : ByteArray).data.toList = rest from rfl, HI.out])
      gi_wp2
      refine hR.mono ?_
      rintro e W3 (⟨rfl, hJ3, hk3⟩ | ⟨rfl, hJx3⟩)
      · have hI3 := hI.keep hk3
        have d1 := hI3.1.cell
        have d2 := hI3.2.1.cell
        have d4 := hI3.1.frozen
        gi_wp2
        rw [extract_tail rest (i + 1) rest.length rfl]
        have hI4 := hI3.set (rest.drop (i + 1))
        exact ⟨⟨_, _, by rw [hs.out, hsp.out, List.map_append, List.append_assoc]; rfl, by simp; omega, hI4, HJ.out _ _ _ hJ3⟩, by rw [strLen_of hI4, strLen_of hI]; simp; omega⟩
      · gi_wp2
        refine bodyPost_ret (results_none rfl _ _ _) rfl ?_
        exact ⟨⟨_, rfl⟩, .inr ⟨_, by rw [hs.out, hsp.out]; exact ⟨splitL (rest.drop (i + 1)), by simp⟩, hJx3⟩⟩

/-- The iterator's own steps: it writes its own variable, box b. -/
def Turns (b : Nat) (A B : World) : Prop := ∃ v, B = A.setCell ⟨b, 0, none⟩ v

theorem split_stops (n : Nat) (hn : 1 ≤ n) (b : Nat) (s : List UInt8) (hlen : s.length ≤ 1099511627776) (w : World) (hA : IsSplit w b s) :
    SeqE n Tryd.prog 49 #[.pointer (some ⟨b + 1, 0, none⟩), .pointer (some ⟨b, 0, none⟩), .pointer (some ⟨b + 2, 0, none⟩)] (fun x : Word => #[Value.string ⟨x.1.toArray⟩]) (KeepsThree b) (Turns b) (fun ys => ys.map (·.1) = splitL s)
      (fun pre => pre.map (·.1) <+: splitL s) (splitL s).length w := fun lp J Jx W hW hJ _ hY h0 =>
  split1_in n hn lp b s hlen J Jx (fun pre A v h => hJ pre A _ h ⟨v, rfl⟩) hY W
    ⟨(hW.block b hA.1.lt).trans hA.1, (hW.block (b + 1) hA.2.1.lt).trans hA.2.1, (hW.block (b + 2) hA.2.2.lt).trans hA.2.2⟩ h0

end Go.Proofs.YtndhkbmgpjjepaaDoor
