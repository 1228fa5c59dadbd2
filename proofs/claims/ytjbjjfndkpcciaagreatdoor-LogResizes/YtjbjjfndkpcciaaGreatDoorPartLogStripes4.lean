/- Own work: the parts R1, R2, R3, R4, R5, R6 of the proof, laid together. -/
import Derived.Test.YtjbjjfndkpcciaaGreatDoorPartLogStripes3
import Derived.Deep.RegionWith
import Derived.StillTailTactics
import Derived.Laws.Concat
import Derived.Lib.QuietBelow
import Derived.Laws.AppendOwn
/- rec's isKey, checkVal, Check: whether a record may be. Own work; no statement. -/
set_option linter.unusedSimpArgs false
set_option linter.unusedVariables false
namespace Go.Proofs.YtjbjjfndkpcciaaGreatDoor
open Go.RowKit

/-- A record, as plain data. -/
structure RecD where
  site : Int
  seq : Int
  dep : List Int
  key : ByteArray
  val : ByteArray

/-- In the world w the value v reads as the record r. -/
def IsRec (w : World) (v : Value) (r : RecD) : Prop :=
  ∃ a cap, v = .agg #[.int .i64 r.site, .int .i64 r.seq, .slice a r.dep.length cap, .string r.key, .string r.val] ∧ IsNums .i64 w (.slice a r.dep.length cap) r.dep

theorem IsRec.below {w w' : World} {v : Value} {r : RecD} (h : IsRec w v r) (hb : Below w.heap.size w w') : IsRec w' v r := by
  obtain ⟨a, cap, rfl, hn⟩ := h
  exact ⟨a, cap, rfl, hn.below hb⟩

/-- A vector's slice, with its numbers' count. -/
theorem IsNums.form {k : IntKind} {w : World} {v : Value} {l : List Int} (h : IsNums k w v l) : ∃ a cap, v = .slice a l.length cap := by
  obtain ⟨a, cap, rfl, -, -⟩ := h
  exact ⟨a, cap, rfl⟩

def keyB (c : UInt8) : Bool := decide ((97 ≤ c.toNat ∧ c.toNat ≤ 122) ∨ (48 ≤ c.toNat ∧ c.toNat ≤ 57))
def isKeyL (l : List UInt8) : Bool := decide (1 ≤ l.length ∧ l.length ≤ 8) && l.all keyB
def valB (c : UInt8) : Bool := decide (33 ≤ c.toNat ∧ c.toNat ≤ 126)
def checkValL (l : List UInt8) : Int := if l.all valB then (if 16 < l.length then 4 else 0) else 2

theorem all_not {p : UInt8 → Bool} (s : ByteArray) (k : Nat) (h : k < s.size) (hd : p s[k] = false) : s.data.toList.all p = false := by
  have hm : s[k] ∈ s.data.toList := by
    have : s[k] = s.data.toList[k]'(by simpa using h) := rfl
    rw [this]
    exact List.getElem_mem _
  rw [List.all_eq_false]
  exact ⟨_, hm, by rw [hd]; simp⟩

theorem all_snoc {p : UInt8 → Bool} (s : ByteArray) (k : Nat) (h : k < s.size) (hall : ∀ c ∈ s.data.toList.take k, p c = true) (hd : p s[k] = true) : ∀ c ∈ s.data.toList.take (k + 1), p c = true := by
  intro c hc
  rw [take_snoc_byte s k h] at hc
  rcases List.mem_append.1 hc with hc | hc
  · exact hall c hc
  · rw [List.mem_singleton.1 hc]; exact hd

theorem all_end {p : UInt8 → Bool} (s : ByteArray) (k : Nat) (h : ¬ k < s.size) (hall : ∀ c ∈ s.data.toList.take k, p c = true) : s.data.toList.all p = true := by
  have e : s.data.toList.take k = s.data.toList := List.take_of_length_le (by rw [← Lib.size_eq]; omega)
  rw [e] at hall
  exact List.all_eq_true.2 hall

set_option maxHeartbeats 1000000 in
theorem isKey_calls (s : ByteArray) (w : World) (hs : s.size ≤ 1099511627776) :
    Calls Tryz.prog 171 #[.string s] w fun e w' => e = .returned (.bool (isKeyL s.data.toList)) ∧ w' = w := by
  obtain ⟨b, hb⟩ : ∃ b, isKeyL s.data.toList = b := ⟨_, rfl⟩
  rw [hb]
  unfold isKeyL at hb
  rw [← Lib.size_eq] at hb
  have Hb := hide hb
  clear hb
  by_cases h1 : (s.size : Int) < 1
  · have e : b = false := by rw [← Hb.out, decide_eq_false (by omega)]; rfl
    subst e
    go_enter Tryz.func171, Tryz.ntmps171
    go_wp2
    go_ret
    exact ⟨rfl, rfl⟩
  · by_cases h8 : 8 < (s.size : Int)
    · have e : b = false := by rw [← Hb.out, decide_eq_false (by omega)]; rfl
      subst e
      go_enter Tryz.func171, Tryz.ntmps171
      go_wp2
      go_ret
      exact ⟨rfl, rfl⟩
    · have e : s.data.toList.all keyB = b := by rw [← Hb.out, decide_eq_true (by omega)]; rfl
      clear Hb
      replace e := hide e
      go_enter Tryz.func171, Tryz.ntmps171
      go_wp2
      go_loop [15] (fun i => ∃ k : Nat, k ≤ s.size ∧ i = .int .i64 (k : Int) ∧ ∀ c ∈ s.data.toList.take k, keyB c = true) (fun i => s.size - (intOf i).toNat)
      case atStart => exact ⟨0, Nat.zero_le _, rfl, by simp⟩
      case round =>
        obtain ⟨k, hk, rfl, hall⟩ := hrel
        replace hall := hide hall
        by_cases hkl : k < s.size
        · have hlt : (k : Int) < (s.size : Int) := by omega
          cases hd : keyB s[k] with
          | true =>
            have hsn := hide (all_snoc s k hkl hall.out hd)
            unfold keyB at hd
            simp only [decide_eq_true_eq] at hd
            by_cases h97 : ((s[k].toNat : Nat) : Int) < 97
            · have h48 : ¬ ((s[k].toNat : Nat) : Int) < 48 := by omega
              have h57 : ¬ 57 < ((s[k].toNat : Nat) : Int) := by omega
              clear hd
              go_wp2
              exact ⟨⟨k + 1, by omega, by go_num, hsn.out⟩, by simp [intOf]; omega⟩
            · have h122 : ¬ 122 < ((s[k].toNat : Nat) : Int) := by omega
              clear hd
              go_wp2
              exact ⟨⟨k + 1, by omega, by go_num, hsn.out⟩, by simp [intOf]; omega⟩
          | false =>
            have e2 : b = false := by rw [← e.out]; exact all_not s k hkl hd
            subst e2
            unfold keyB at hd
            simp only [decide_eq_false_iff_not] at hd
            by_cases h97 : ((s[k].toNat : Nat) : Int) < 97
            · by_cases h48 : ((s[k].toNat : Nat) : Int) < 48
              · clear hd
                go_wp2
                go_ret
                exact ⟨rfl, rfl⟩
              · have h57 : 57 < ((s[k].toNat : Nat) : Int) := by omega
                clear hd
                go_wp2
                go_ret
                exact ⟨rfl, rfl⟩
            · have h122 : 122 < ((s[k].toNat : Nat) : Int) := by omega
              have h48 : ¬ ((s[k].toNat : Nat) : Int) < 48 := by omega
              have h57 : 57 < ((s[k].toNat : Nat) : Int) := by omega
              clear hd
              go_wp2
              go_ret
              exact ⟨rfl, rfl⟩
        · have e2 : b = true := by rw [← e.out]; exact all_end s k hkl hall.out
          subst e2
          go_wp2
          go_ret
          exact ⟨rfl, rfl⟩

set_option maxHeartbeats 1000000 in
theorem checkVal_calls (s : ByteArray) (w : World) (hs : s.size ≤ 1099511627776) :
    Calls Tryz.prog 172 #[.string s] w fun e w' => e = .returned (.int .i64 (checkValL s.data.toList)) ∧ w' = w := by
  obtain ⟨b, hb⟩ : ∃ b, checkValL s.data.toList = b := ⟨_, rfl⟩
  rw [hb]
  unfold checkValL at hb
  rw [← Lib.size_eq] at hb
  have Hb := hide hb
  clear hb
  go_enter Tryz.func172, Tryz.ntmps172
  go_wp2
  go_loop [6] (fun i => ∃ k : Nat, k ≤ s.size ∧ i = .int .i64 (k : Int) ∧ ∀ c ∈ s.data.toList.take k, valB c = true) (fun i => s.size - (intOf i).toNat)
  case atStart => exact ⟨0, Nat.zero_le _, rfl, by simp⟩
  case round =>
    obtain ⟨k, hk, rfl, hall⟩ := hrel
    replace hall := hide hall
    by_cases hkl : k < s.size
    · have hlt : (k : Int) < (s.size : Int) := by omega
      cases hd : valB s[k] with
      | true =>
        have hsn := hide (all_snoc s k hkl hall.out hd)
        unfold valB at hd
        simp only [decide_eq_true_eq] at hd
        have h33 : ¬ ((s[k].toNat : Nat) : Int) < 33 := by omega
        have h126 : ¬ 126 < ((s[k].toNat : Nat) : Int) := by omega
        clear hd
        go_wp2
        exact ⟨⟨k + 1, by omega, by go_num, hsn.out⟩, by simp [intOf]; omega⟩
      | false =>
        have e2 : b = 2 := by rw [← Hb.out, all_not s k hkl hd]; rfl
        subst e2
        unfold valB at hd
        simp only [decide_eq_false_iff_not] at hd
        by_cases h33 : ((s[k].toNat : Nat) : Int) < 33
        · clear hd
          go_wp2
          go_ret
          exact ⟨rfl, rfl⟩
        · have h126 : 126 < ((s[k].toNat : Nat) : Int) := by omega
          clear hd
          go_wp2
          go_ret
          exact ⟨rfl, rfl⟩
    · have e2 := Hb.out
      rw [all_end s k hkl hall.out, if_pos rfl] at e2
      by_cases h16 : 16 < (s.size : Int)
      · rw [if_pos (by omega)] at e2
        subst e2
        go_wp2
        go_ret
        exact ⟨rfl, rfl⟩
      · rw [if_neg (by omega)] at e2
        subst e2
        go_wp2
        go_ret
        exact ⟨rfl, rfl⟩

/-- As what Check tells of r: the number of the error. -/
def checkR (r : RecD) (s : Int) : Int :=
  if s < 1 ∨ 8 < s ∨ r.site < 0 ∨ s ≤ r.site ∨ r.seq < 1 ∨ 1048576 < r.seq then 1 else if checkL r.dep s = 0 then
    (if r.seq ≤ geti r.dep r.site then 13 else if isKeyL r.key.data.toList then checkValL r.val.data.toList else 3) else checkL r.dep s

theorem box_below (w : World) (o : Obj) : Below w.heap.size w (w.alloc o) := (Below.refl _ w).alloc (Nat.le_refl _) o

end Go.Proofs.YtjbjjfndkpcciaaGreatDoor

/- rec's Check, Before, Same; the laws' Of and Few. Own work; no statement. -/
set_option linter.unusedSimpArgs false
set_option linter.unusedVariables false
namespace Go.Proofs.YtjbjjfndkpcciaaGreatDoor
open Go.RowKit

set_option maxHeartbeats 2000000 in
theorem recCheck_calls (v : Value) (r : RecD) (s : Int) (w : World) (hv : IsRec w v r) (hl : r.dep.length ≤ 1099511627776) (hks : r.key.size ≤ 1099511627776) (hvs : r.val.size ≤ 1099511627776) :
    Calls Tryz.prog 120 #[v, .int .i64 s] w fun e w' => e = .returned (.int .i64 (checkR r s)) ∧ Below w.heap.size w w' := by
  obtain ⟨c, hc⟩ : ∃ c, checkR r s = c := ⟨_, rfl⟩
  rw [hc]
  unfold checkR at hc
  obtain ⟨site, seq, dep, key, val⟩ := r
  obtain ⟨a, cap, rfl, hn⟩ := hv
  dsimp only at *
  have HB := hide (box_below w (.cells #[.int .i64 site, .int .i64 seq, .slice a dep.length cap, .string key, .string val] 36))
  have Hn := hide (hn.below HB.out)
  have Hc := hide hc
  clear hn hc
  by_cases h0 : s < 1
  · have e : c = 1 := by rw [← Hc.out, if_pos (by omega)]
    subst e
    go_enter Tryz.func120, Tryz.ntmps120
    go_wp2
    go_ret
    exact ⟨rfl, HB.out⟩
  by_cases h1 : 8 < s
  · have e : c = 1 := by rw [← Hc.out, if_pos (by omega)]
    subst e
    go_enter Tryz.func120, Tryz.ntmps120
    go_wp2
    go_ret
    exact ⟨rfl, HB.out⟩
  by_cases h2 : site < 0
  · have e : c = 1 := by rw [← Hc.out, if_pos (by omega)]
    subst e
    go_enter Tryz.func120, Tryz.ntmps120
    go_wp2
    go_ret
    exact ⟨rfl, HB.out⟩
  by_cases h3 : s ≤ site
  · have e : c = 1 := by rw [← Hc.out, if_pos (by omega)]
    subst e
    go_enter Tryz.func120, Tryz.ntmps120
    go_wp2
    go_ret
    exact ⟨rfl, HB.out⟩
  by_cases h4 : seq < 1
  · have e : c = 1 := by rw [← Hc.out, if_pos (by omega)]
    subst e
    go_enter Tryz.func120, Tryz.ntmps120
    go_wp2
    go_ret
    exact ⟨rfl, HB.out⟩
  by_cases h5 : 1048576 < seq
  · have e : c = 1 := by rw [← Hc.out, if_pos (by omega)]
    subst e
    go_enter Tryz.func120, Tryz.ntmps120
    go_wp2
    go_ret
    exact ⟨rfl, HB.out⟩
  have e := Hc.out
  rw [if_neg (by omega)] at e
  clear Hc
  obtain ⟨q, hq⟩ : ∃ q, checkL dep s = q := ⟨_, rfl⟩
  rw [hq] at e
  replace e := hide e
  have Hq := hide hq
  clear hq
  by_cases hq0 : q = 0
  · have e1 := e.out
    rw [if_pos hq0] at e1
    subst hq0
    clear e
    replace e1 := hide e1
    obtain ⟨g, hg⟩ : ∃ g, geti dep site = g := ⟨_, rfl⟩
    have Hg := hide hg
    have HG := hide (fun n => get_calls _ dep site _ (Hn.out.below (below_draws n)) hl)
    rw [hg] at HG
    clear hg
    by_cases h13 : seq ≤ g
    · have e2 : c = 13 := by rw [← e1.out, Hg.out, if_pos h13]
      subst e2
      go_enter Tryz.func120, Tryz.ntmps120
      go_wp2_with (go_at_call 169; refine (check_calls _ dep s _ Hn.out hl).mono ?_; rintro e w' ⟨rfl, rfl⟩; rw [Hq.out])
      go_quiet (first | (go_at_call 170; refine Calls.quiet_of_same (HG.out _)))
      go_wp2
      go_ret
      exact ⟨rfl, HB.out.trans (below_draws _)⟩
    · have e2 := e1.out
      rw [Hg.out, if_neg h13] at e2
      clear e1
      replace e2 := hide e2
      obtain ⟨kb, hkb⟩ : ∃ kb, isKeyL key.data.toList = kb := ⟨_, rfl⟩
      obtain ⟨vb, hvb⟩ : ∃ vb, checkValL val.data.toList = vb := ⟨_, rfl⟩
      have Hkb := hide hkb
      have Hvb := hide hvb
      clear hkb hvb
      cases kb with
      | false =>
        have e3 : c = 3 := by rw [← e2.out, Hkb.out]; rfl
        subst e3
        go_enter Tryz.func120, Tryz.ntmps120
        go_wp2_with (go_at_call 169; refine (check_calls _ dep s _ Hn.out hl).mono ?_; rintro e w' ⟨rfl, rfl⟩; rw [Hq.out])
        go_quiet (first | (go_at_call 170; refine Calls.quiet_of_same (HG.out _)))
        go_wp2_with (go_at_call 171; refine (isKey_calls key _ hks).mono ?_; rintro e w' ⟨rfl, rfl⟩; rw [Hkb.out])
        go_ret
        exact ⟨rfl, HB.out.trans (below_draws _)⟩
      | true =>
        have e3 : c = vb := by rw [← e2.out, Hkb.out, Hvb.out]; rfl
        subst e3
        go_enter Tryz.func120, Tryz.ntmps120
        go_wp2_with (go_at_call 169; refine (check_calls _ dep s _ Hn.out hl).mono ?_; rintro e w' ⟨rfl, rfl⟩; rw [Hq.out])
        go_quiet (first | (go_at_call 170; refine Calls.quiet_of_same (HG.out _)))
        go_wp2_with (first | (go_at_call 171; refine (isKey_calls key _ hks).mono ?_; rintro e w' ⟨rfl, rfl⟩; rw [Hkb.out]) | (go_at_call 172; refine (checkVal_calls val _ hvs).mono ?_; rintro e w' ⟨rfl, rfl⟩; rw [Hvb.out]))
        go_ret
        exact ⟨rfl, HB.out.trans (below_draws _)⟩
  · have e1 := e.out
    rw [if_neg hq0] at e1
    subst e1
    clear e
    have hq1 : (q != 0) = true := by simp [hq0]
    clear hq0
    go_enter Tryz.func120, Tryz.ntmps120
    go_wp2_with (go_at_call 169; refine (check_calls _ dep s _ Hn.out hl).mono ?_; rintro e w' ⟨rfl, rfl⟩; rw [Hq.out])
    go_ret
    exact ⟨rfl, HB.out⟩

set_option maxHeartbeats 400000 in
theorem recOfLaw_calls (v : Value) (r : RecD) (w : World) (hv : IsRec w v r) :
    Calls Tryz.prog 25 #[v] w fun e w' => e = .returned v ∧ Below w.heap.size w w' := by
  obtain ⟨site, seq, dep, key, val⟩ := r
  obtain ⟨a, cap, rfl, hn⟩ := hv
  dsimp only at *
  clear hn
  go_enter Tryz.func25, Tryz.ntmps25
  go_wp2
  refine bodyPost_ret (v := .agg #[.int .i64 site, .int .i64 seq, .slice a dep.length cap, .string key, .string val]) (by simp [results, Tryz.f25, go_sem]) rfl ⟨rfl, (box_below _ _).alloc (by simp) _⟩

--has landau/landaulaw2.Few
def fewR (r : RecD) : Bool := decide (r.dep.length ≤ 70 ∧ r.key.size ≤ 50 ∧ r.val.size ≤ 50)
set_option maxHeartbeats 400000 in
theorem recFew_calls (v : Value) (r : RecD) (w : World) (hv : IsRec w v r) :
    Calls Tryz.prog 37 #[v] w fun e w' => e = .returned (.bool (fewR r)) ∧ Below w.heap.size w w' := by
  obtain ⟨b, hb⟩ : ∃ b, fewR r = b := ⟨_, rfl⟩
  rw [hb]
  unfold fewR at hb
  obtain ⟨site, seq, dep, key, val⟩ := r
  obtain ⟨a, cap, rfl, hn⟩ := hv
  dsimp only at *
  clear hn
  have Hb := hide hb
  clear hb
  by_cases h1 : (dep.length : Int) ≤ 70
  · by_cases h2 : (key.size : Int) ≤ 50
    · by_cases h3 : (val.size : Int) ≤ 50
      · have e : b = true := by rw [← Hb.out, decide_eq_true (by omega)]
        subst e
        go_enter Tryz.func37, Tryz.ntmps37
        go_wp2
        go_ret
        exact ⟨by simp [h3], box_below _ _⟩
      · have e : b = false := by rw [← Hb.out, decide_eq_false (by omega)]
        subst e
        go_enter Tryz.func37, Tryz.ntmps37
        go_wp2
        go_ret
        exact ⟨by simp [h3], box_below _ _⟩
    · have e : b = false := by rw [← Hb.out, decide_eq_false (by omega)]
      subst e
      go_enter Tryz.func37, Tryz.ntmps37
      go_wp2
      go_ret
      exact ⟨by simp, box_below _ _⟩
  · have e : b = false := by rw [← Hb.out, decide_eq_false (by omega)]
    subst e
    go_enter Tryz.func37, Tryz.ntmps37
    go_wp2
    go_ret
    exact ⟨by simp, box_below _ _⟩

end Go.Proofs.YtjbjjfndkpcciaaGreatDoor

/- rec's Before and Same. Own work; no statement. -/
set_option linter.unusedSimpArgs false
set_option linter.unusedVariables false
namespace Go.Proofs.YtjbjjfndkpcciaaGreatDoor
open Go.RowKit

/-- A region whose head only reads, and whose tail comes in one order. -/
theorem region_tail {P : Program} {id : Nat} {Q : Exit → Act → World → Prop} {a : Act} {w : World} {l : List Oper} (n : Nat) (hm : P.follows .mixedOrders = true) (hB : Region.lexTailB .any l.toArray n = true)
    (h : wpStill P l.toArray w.drew (fun a' => wpList P l.toArray Q (l.drop n) a' w.drew) (l.take n) a) : (Code.region id l.toArray true).wp P Q a w := wp_region_still_tail n hm hB h

theorem str_ne {a b : ByteArray} (h : ¬ a = b) : (a.toList == b.toList) = false := by
  rw [beq_eq_false_iff_ne, Lib.toList_data, Lib.toList_data]
  intro e
  exact h (ByteArray.ext (Array.toList_inj.1 e))

def sameR (a b : RecD) : Bool := decide (a.site = b.site) && (decide (a.seq = b.seq) && (decide (a.key = b.key) && (decide (a.val = b.val) && everyB eqB a.dep b.dep)))

def beforeR (a b : RecD) : Bool := decide (a.site < b.site ∨ a.site = b.site ∧ a.seq < b.seq)

theorem before_num (x y x' y' : Int) : decide ((if Lib.compareInt x y = 0 then Lib.compareInt x' y' else Lib.compareInt x y) < 0) = decide (x < y ∨ x = y ∧ x' < y') := by
  unfold Lib.compareInt
  by_cases h : x < y
  · simp [h]
  · by_cases h2 : y < x
    · have : ¬ x = y := by omega
      simp [h, h2, this]
    · have e : x = y := by omega
      subst e
      by_cases h3 : x' < y'
      · simp [h3]
      · by_cases h4 : y' < x' <;> simp [h3, h4]

end Go.Proofs.YtjbjjfndkpcciaaGreatDoor

/- A region whose operations read, and whose callees make memory of their own: one walk of the text's order serves every order. rec's Text. Own work; no statement. -/
set_option linter.unusedSimpArgs false
set_option linter.unusedVariables false
namespace Go.Proofs.YtjbjjfndkpcciaaGreatDoor
open Go.RowKit Go.Sort

theorem app_bytes (a b : List UInt8) : (⟨a.toArray⟩ : ByteArray) ++ ⟨b.toArray⟩ = ⟨(a ++ b).toArray⟩ := by
  apply ByteArray.ext
  simp [ByteArray.data_append]

set_option maxHeartbeats 400000 in
theorem itoa_calls (n : Int) (w : World) (h0 : -9223372036854775808 ≤ n) (h1 : n ≤ 9223372036854775807) (hp : Pow w) :
    Calls Tryz.prog 143 #[.int .i64 n] w fun e w' => e = .returned (.string ⟨(Lib.itoa n).toArray⟩) ∧ Below w.heap.size w w' :=
  (Tryz.strconv_Itoa n h0 h1 w (hp w (Below.refl _ _))).mono fun _ _ ⟨he, k, os, hw⟩ => ⟨he, hw ▸ Lib.below_grow _ _ (Nat.le_refl _) k os⟩

theorem textL_length {l : List Int} (h : InR l) : (textL l).length ≤ 22 * l.length + 2 := by
  have h1 := numsTo_length h (writtenL l)
  have h2 := writtenL_le l
  unfold textL
  simp
  omega

/-- A record in words. -/
def textR (r : RecD) : ByteArray := (⟨(Lib.itoa r.site).toArray⟩ : ByteArray) ++ ⟨#[58]⟩ ++ ⟨(Lib.itoa r.seq).toArray⟩ ++ ⟨#[32]⟩ ++ ⟨(textL r.dep).toArray⟩ ++ ⟨#[32]⟩ ++ r.key ++ ⟨#[61]⟩ ++ r.val

set_option maxHeartbeats 4000000 in
set_option maxRecDepth 100000 in
theorem recText_calls (v : Value) (r : RecD) (w : World) (hv : IsRec w v r) (hs0 : -9223372036854775808 ≤ r.site) (hs1 : r.site ≤ 9223372036854775807) (hq0 : -9223372036854775808 ≤ r.seq) (hq1 : r.seq ≤ 9223372036854775807) (hl : r.dep.length ≤ 4294967296) (hr : InR r.dep) (hks : r.key.size ≤ 1099511627776) (hvs : r.val.size ≤ 1099511627776) (hp : Pow w) :
    Calls Tryz.prog 200 #[v] w fun e w' => e = .returned (.string (textR r)) ∧ Below w.heap.size w w' := by
  obtain ⟨site, seq, dep, key, val⟩ := r
  obtain ⟨a, cap, rfl, hn⟩ := hv
  dsimp only at *
  unfold textR
  dsimp only
  have l1 := Lib.itoa_length_le site hs0 hs1
  have l2 := Lib.itoa_length_le seq hq0 hq1
  have l3 := textL_length hr
  have HB := box_below w (.cells #[.int .i64 site, .int .i64 seq, .slice a dep.length cap, .string key, .string val] 36)
  obtain ⟨W1, hW1⟩ : ∃ W1, w.alloc (.cells #[.int .i64 site, .int .i64 seq, .slice a dep.length cap, .string key, .string val] 36) = W1 := ⟨_, rfl⟩
  rw [hW1] at HB
  have k0 := cell_regrown (show W1.cell? ⟨w.heap.size, 0, none⟩ = some (.int .i64 site) by rw [← hW1, World.cell?_alloc_at _ _ _ _ rfl]; rfl)
  have k1 := cell_regrown (show W1.cell? ⟨w.heap.size, 1, none⟩ = some (.int .i64 seq) by rw [← hW1, World.cell?_alloc_at _ _ _ _ rfl]; rfl)
  have k2 := cell_regrown (show W1.cell? ⟨w.heap.size, 2, none⟩ = some (.slice a dep.length cap) by rw [← hW1, World.cell?_alloc_at _ _ _ _ rfl]; rfl)
  have k3 := cell_regrown (show W1.cell? ⟨w.heap.size, 3, none⟩ = some (.string key) by rw [← hW1, World.cell?_alloc_at _ _ _ _ rfl]; rfl)
  have k4 := cell_regrown (show W1.cell? ⟨w.heap.size, 4, none⟩ = some (.string val) by rw [← hW1, World.cell?_alloc_at _ _ _ _ rfl]; rfl)
  have q1 := hide (fun d os => Calls.regrown_of (itoa_calls site (grow (redrawn W1 d) os) hs0 hs1 ((hp.below HB).below (below_regrown W1 d os))))
  have q2 := hide (fun d os => Calls.regrown_of (itoa_calls seq (grow (redrawn W1 d) os) hq0 hq1 ((hp.below HB).below (below_regrown W1 d os))))
  have q3 := hide (fun d os => Calls.regrown_of (text_calls _ dep (grow (redrawn W1 d) os) ((hn.below HB).below (below_regrown W1 d os)) hl hr ((hp.below HB).below (below_regrown W1 d os))))
  have z1 : (⟨(Lib.itoa site).toArray⟩ : ByteArray).size ≤ 21 := by simpa [ByteArray.size] using l1
  have z2 : (⟨(Lib.itoa seq).toArray⟩ : ByteArray).size ≤ 21 := by simpa [ByteArray.size] using l2
  have z3 : (⟨(textL dep).toArray⟩ : ByteArray).size ≤ 22 * dep.length + 2 := by simpa [ByteArray.size] using l3
  generalize (⟨(Lib.itoa site).toArray⟩ : ByteArray) = S1 at *
  generalize (⟨(Lib.itoa seq).toArray⟩ : ByteArray) = S2 at *
  generalize (⟨(textL dep).toArray⟩ : ByteArray) = S3 at *
  have n1 : ¬ 9223372036854775807 < S1.size + 1 := by omega
  have n2 : ¬ 9223372036854775807 < S1.size + 1 + S2.size := by omega
  have n3 : ¬ 9223372036854775807 < S1.size + 1 + S2.size + 1 := by omega
  have n4 : ¬ 9223372036854775807 < S1.size + 1 + S2.size + 1 + S3.size := by omega
  have n5 : ¬ 9223372036854775807 < S1.size + 1 + S2.size + 1 + S3.size + 1 := by omega
  have n6 : ¬ 9223372036854775807 < S1.size + 1 + S2.size + 1 + S3.size + 1 + key.size := by omega
  have n7 : ¬ 9223372036854775807 < S1.size + 1 + S2.size + 1 + S3.size + 1 + key.size + 1 := by omega
  have n8 : ¬ 9223372036854775807 < S1.size + 1 + S2.size + 1 + S3.size + 1 + key.size + 1 + val.size := by omega
  have HW := hide hW1
  clear hW1 hn hp hr l1 l2 l3
  go_enter Tryz.func200, Tryz.ntmps200
  go_wp2
  rw [HW.out]
  refine wp_region_quiet_below (by kernel_rfl) (by kernel_rfl) ?_
  repeat (quiet_step (first | exact q1.out _ _ | exact q2.out _ _ | exact q3.out _ _))
  refine wpQuiet_nil ?_
  intro _ hw'
  obtain ⟨⟨dq, osq⟩, hw''⟩ := hw'
  subst hw''
  go_wp2
  go_ret
  exact ⟨rfl, HB.trans ((below_regrown W1 dq osq).mono HB.size)⟩

end Go.Proofs.YtjbjjfndkpcciaaGreatDoor

/- strings.Cut at one byte, strings.Clone; rec's split. Own work; no statement. -/
set_option linter.unusedSimpArgs false
set_option linter.unusedVariables false
namespace Go.Proofs.YtjbjjfndkpcciaaGreatDoor
open Go.RowKit Go.Sort

theorem set1 {W : World} {b j : Nat} {c : Array Value} {t : TypeId} {f : Nat × Nat} (h : W.heap[b]? = some (.cells c t f)) (v : Value) : (W.setCell ⟨b, j, none⟩ v).heap[b]? = some (.cells (c.setIfInBounds j v) t f) := by
  simp [World.setCell, Array.getElem?_modify, h]
theorem cell_at {W : World} {b : Nat} {c : Array Value} {t : TypeId} {f : Nat × Nat} (h : W.heap[b]? = some (.cells c t f)) (j : Nat) : W.cell? ⟨b, j, none⟩ = c[j]? := by
  simp [World.cell?, h]
/-- A struct of five cells, stored whole. -/
def put5 (W : World) (b : Nat) (v0 v1 v2 v3 v4 : Value) : World := ((((W.setCell ⟨b, 0, none⟩ v0).setCell ⟨b, 1, none⟩ v1).setCell ⟨b, 2, none⟩ v2).setCell ⟨b, 3, none⟩ v3).setCell ⟨b, 4, none⟩ v4
theorem put5_heap {W : World} {b : Nat} {x0 x1 x2 x3 x4 : Value} {t : TypeId} {f : Nat × Nat} (h : W.heap[b]? = some (.cells #[x0, x1, x2, x3, x4] t f)) (v0 v1 v2 v3 v4 : Value) :
    (put5 W b v0 v1 v2 v3 v4).heap[b]? = some (.cells #[v0, v1, v2, v3, v4] t f) := by
  have := set1 (j := 4) (set1 (j := 3) (set1 (j := 2) (set1 (j := 1) (set1 (j := 0) h v0) v1) v2) v3) v4
  simpa [put5] using this
theorem put5_below {B b : Nat} {w W : World} (h : Below B w W) (hb : B ≤ b) (v0 v1 v2 v3 v4 : Value) : Below B w (put5 W b v0 v1 v2 v3 v4) :=
  ((((h.setCell (p := ⟨b, 0, none⟩) hb v0).setCell (p := ⟨b, 1, none⟩) hb v1).setCell (p := ⟨b, 2, none⟩) hb v2).setCell (p := ⟨b, 3, none⟩) hb v3).setCell (p := ⟨b, 4, none⟩) hb v4
theorem put5_other {b : Nat} {W : World} (k : Nat) (h : k ≠ b) (v0 v1 v2 v3 v4 : Value) : (put5 W b v0 v1 v2 v3 v4).heap[k]? = W.heap[k]? := by
  unfold put5
  rw [Below.heap_setCell _ ⟨b, 4, none⟩ _ k h, Below.heap_setCell _ ⟨b, 3, none⟩ _ k h, Below.heap_setCell _ ⟨b, 2, none⟩ _ k h, Below.heap_setCell _ ⟨b, 1, none⟩ _ k h, Below.heap_setCell _ ⟨b, 0, none⟩ _ k h]

/-- A text before and behind a byte's first place. -/
def cutL (l : List UInt8) (c : UInt8) : List UInt8 × List UInt8 × Bool :=
  if Lib.indexByte l c = -1 then (l, [], false) else (l.take (Lib.indexByte l c).toNat, l.drop ((Lib.indexByte l c).toNat + 1), true)

theorem indexByte_lt : ∀ (l : List UInt8) (c : UInt8), Lib.indexByte l c < l.length
  | [], _ => by simp [Lib.indexByte]
  | x :: r, c => by
    have := indexByte_lt r c
    simp only [Lib.indexByte, List.length_cons]
    split
    · omega
    · split <;> omega

theorem cutL_length (l : List UInt8) (c : UInt8) : (cutL l c).1.length ≤ l.length ∧ (cutL l c).2.1.length ≤ l.length := by
  unfold cutL
  split <;> simp <;> omega

set_option maxHeartbeats 1000000 in
theorem litCut_calls (l : List UInt8) (c : UInt8) (w : World) (hs : l.length ≤ 1099511627776) :
    Calls Tryz.prog 175 #[.string ⟨l.toArray⟩, .string ⟨#[c]⟩] w fun e w' => e = .returned (.tuple #[.string ⟨(cutL l c).1.toArray⟩, .string ⟨(cutL l c).2.1.toArray⟩, .bool (cutL l c).2.2]) ∧ ∃ n, w' = w.drewN n := by
  obtain ⟨p, hp⟩ : ∃ p, cutL l c = p := ⟨_, rfl⟩
  rw [hp]
  unfold cutL at hp
  have ci := Tryz.stringslite_Index_one ⟨l.toArray⟩ c w
  rw [show (⟨l.toArray⟩ : ByteArray).data.toList = l from rfl] at ci
  have hge := Lib.indexByte_ge l c
  have hlt := indexByte_lt l c
  generalize Lib.indexByte l c = i at *
  have Ci := hide ci
  clear ci
  by_cases hi : i = -1
  · rw [if_pos hi] at hp
    subst hi
    subst hp
    clear hge hlt
    go_enter Tryz.func175, Tryz.ntmps175
    go_wp2_with (go_at_call 202; refine Ci.out.mono ?_; rintro e w' ⟨rfl, rfl⟩)
    go_ret3
    exact ⟨rfl, 0, rfl⟩
  · rw [if_neg hi] at hp
    subst hp
    obtain ⟨k, rfl⟩ := Int.eq_ofNat_of_zero_le (show 0 ≤ i by omega)
    have hk : k < l.length := by omega
    clear hge hi
    have hx1 := extract_head l k
    have hx2 := extract_tail l (k + 1) l.length rfl
    rw [Int.toNat_natCast]
    go_enter Tryz.func175, Tryz.ntmps175
    go_wp2_with (go_at_call 202; refine Ci.out.mono ?_; rintro e w' ⟨rfl, rfl⟩)
    go_quiet (fail)
    go_wp2
    go_ret3
    exact ⟨rfl, _, rfl⟩

set_option maxHeartbeats 1000000 in
theorem cut_calls (l : List UInt8) (c : UInt8) (w : World) (hs : l.length ≤ 1099511627776) :
    Calls Tryz.prog 125 #[.string ⟨l.toArray⟩, .string ⟨#[c]⟩] w fun e w' => e = .returned (.tuple #[.string ⟨(cutL l c).1.toArray⟩, .string ⟨(cutL l c).2.1.toArray⟩, .bool (cutL l c).2.2]) ∧ ∃ n, w' = w.drewN n := by
  have Ci := hide (litCut_calls l c w hs)
  generalize cutL l c = p at *
  obtain ⟨p1, p2, p3⟩ := p
  dsimp only at *
  go_enter Tryz.func125, Tryz.ntmps125
  go_wp2_with (go_at_call 175; refine Ci.out.mono ?_; rintro e w' ⟨rfl, n, rfl⟩)
  go_ret3
  exact ⟨rfl, _, rfl⟩

set_option maxHeartbeats 400000 in
theorem clone_calls (s : ByteArray) (w : World) (hs : s.size ≤ 1099511627776) :
    Calls Tryz.prog 174 #[.string s] w fun e w' => e = .returned (.string s) ∧ Below w.heap.size w w' := by
  have Ci := hide (Tryz.stringslite_Clone s w (by omega))
  go_enter Tryz.func174, Tryz.ntmps174
  go_wp2_with (go_at_call 201; refine Ci.out.mono ?_; rintro e w' ⟨rfl, hB⟩)
  go_ret
  exact ⟨rfl, hB⟩

/-- The parts of a record's text, at the signs that end them. -/
structure Parts where
  site : List UInt8
  seq : List UInt8
  dep : List UInt8
  key : List UInt8
  val : List UInt8

def splitR (s : List UInt8) : Option Parts :=
  let c1 := cutL s 58
  let c2 := cutL c1.2.1 32
  let e := (Lib.indexByte c2.2.1 93 + 1).toNat
  let r := c2.2.1.drop e
  let c3 := cutL (Lib.trimPrefix r [32]) 61
  if c1.2.2 = true ∧ c2.2.2 = true ∧ e ≠ 0 ∧ Lib.hasPrefix r [32] = true ∧ c3.2.2 = true then some ⟨c1.1, c2.1, c2.2.1.take e, c3.1, c3.2.1⟩ else none

/-- What split hands back: the parts, or nothing at all. -/
def partsV : Option Parts → Value
  | some p => .agg #[.string ⟨p.site.toArray⟩, .string ⟨p.seq.toArray⟩, .string ⟨p.dep.toArray⟩, .string ⟨p.key.toArray⟩, .string ⟨p.val.toArray⟩]
  | none => .agg #[.string ⟨#[]⟩, .string ⟨#[]⟩, .string ⟨#[]⟩, .string ⟨#[]⟩, .string ⟨#[]⟩]

theorem below_drewN (w : World) (n : Nat) : Below w.heap.size w (w.drewN n) := below_draws n

set_option maxHeartbeats 4000000 in
theorem split_calls (s : List UInt8) (w : World) (hs : s.length ≤ 1099511627776) :
    Calls Tryz.prog 229 #[.string ⟨s.toArray⟩] w fun e w' => e = .returned (.tuple #[partsV (splitR s), .bool (splitR s).isSome]) ∧ Below w.heap.size w w' := by
  obtain ⟨o, ho⟩ : ∃ o, splitR s = o := ⟨_, rfl⟩
  rw [ho]
  unfold splitR at ho
  dsimp only at ho
  have u1 := hide (fun w => cut_calls s 58 w hs)
  have m1 := (cutL_length s 58).2
  generalize cutL s 58 = c1 at *
  obtain ⟨site, r1, b1⟩ := c1
  dsimp only at *
  have u2 := hide (fun w => cut_calls r1 32 w (by omega))
  have m2 := (cutL_length r1 32).2
  generalize cutL r1 32 = c2 at *
  obtain ⟨seq, r2, b2⟩ := c2
  dsimp only at *
  have u3 := hide (fun w => Tryz.strings_IndexByte ⟨r2.toArray⟩ 93 w)
  rw [show (⟨r2.toArray⟩ : ByteArray).data.toList = r2 from rfl, show ((93 : Int).toNat.toUInt8 : UInt8) = 93 from rfl] at u3
  have g3 := Lib.indexByte_ge r2 93
  have l3 := indexByte_lt r2 93
  generalize Lib.indexByte r2 93 = i at *
  obtain ⟨e, he⟩ := Int.eq_ofNat_of_zero_le (show 0 ≤ i + 1 by omega)
  have hle : e ≤ r2.length := by omega
  rw [he, Int.toNat_natCast] at ho
  have i0 : -1 ≤ i := g3
  have i1 : i < 1099511627776 := by omega
  have x1 := extract_head r2 e
  have x2 := extract_tail r2 e r2.length rfl
  have u4 := hide (fun w => Tryz.strings_CutPrefix ⟨(r2.drop e).toArray⟩ ⟨#[32]⟩ w)
  simp only [show (⟨(r2.drop e).toArray⟩ : ByteArray).data.toList = r2.drop e from rfl, show (⟨#[32]⟩ : ByteArray).data.toList = [32] from rfl] at u4
  have m4 := trimPrefix_length (r2.drop e) [32]
  have m5 : (r2.drop e).length ≤ r2.length := by simp
  generalize Lib.trimPrefix (r2.drop e) [32] = r4 at *
  generalize Lib.hasPrefix (r2.drop e) [32] = b4 at *
  have u5 := hide (fun w => cut_calls r4 61 w (by omega))
  generalize cutL r4 61 = c5 at *
  obtain ⟨key, val, b5⟩ := c5
  dsimp only at *
  have leI : (e : Int) ≤ (r2.length : Int) := by omega
  clear g3 l3 m4 m5
  have Ho := hide ho
  clear ho
  cases b1 with
  | false =>
    have e1 : o = none := by rw [← Ho.out, if_neg (by simp)]
    subst e1
    clear Ho
    go_enter Tryz.func229, Tryz.ntmps229
    go_wp2_with (first | (go_at_call_of 125 (Value.string ⟨s.toArray⟩); refine (u1.out _).mono ?_; rintro e w' ⟨rfl, n1, rfl⟩) | (go_at_call_of 125 (Value.string ⟨r1.toArray⟩); refine (u2.out _).mono ?_; rintro e w' ⟨rfl, n2, rfl⟩) | (go_at_call 187; refine (u3.out _).mono ?_; rintro e w' ⟨rfl, rfl⟩) | (go_at_call 204; refine (u4.out _).mono ?_; rintro e w' ⟨rfl, rfl⟩) | (go_at_call_of 125 (Value.string ⟨r4.toArray⟩); refine (u5.out _).mono ?_; rintro e w' ⟨rfl, n5, rfl⟩))
    obtain ⟨W0, hW0⟩ : ∃ W0, (w.alloc (.cells #[.string ⟨#[]⟩, .string ⟨#[]⟩, .string ⟨#[]⟩, .string ⟨#[]⟩, .string ⟨#[]⟩] 249)).drewN (n1 + n2 + n5) = W0 := ⟨_, rfl⟩
    have hb0 : W0.heap[w.heap.size]? = some (.cells #[.string ⟨#[]⟩, .string ⟨#[]⟩, .string ⟨#[]⟩, .string ⟨#[]⟩, .string ⟨#[]⟩] 249 (0, 0)) := by rw [← hW0]; exact World.alloc_heap_new w _
    have hB0 : Below w.heap.size w W0 := by rw [← hW0]; exact (box_below w _).trans (below_draws _)
    rw [hW0]
    obtain ⟨W1, hW1⟩ : ∃ W1, put5 W0 w.heap.size (.string ⟨#[]⟩) (.string ⟨#[]⟩) (.string ⟨#[]⟩) (.string ⟨#[]⟩) (.string ⟨#[]⟩) = W1 := ⟨_, rfl⟩
    have hb1 := put5_heap hb0 (.string ⟨#[]⟩) (.string ⟨#[]⟩) (.string ⟨#[]⟩) (.string ⟨#[]⟩) (.string ⟨#[]⟩)
    have hB1 := put5_below hB0 (Nat.le_refl _) (.string ⟨#[]⟩) (.string ⟨#[]⟩) (.string ⟨#[]⟩) (.string ⟨#[]⟩) (.string ⟨#[]⟩)
    rw [hW1] at hb1 hB1
    unfold put5 at hW1
    rw [hW1]
    have k0 := cell_at hb1 0
    have k1 := cell_at hb1 1
    have k2 := cell_at hb1 2
    have k3 := cell_at hb1 3
    have k4 := cell_at hb1 4
    simp at k0 k1 k2 k3 k4
    exact bodyPost_ret (v := .tuple #[partsV none, .bool false]) (by simp [results, Tryz.f229, go_sem, k0, k1, k2, k3, k4, partsV]) rfl ⟨rfl, hB1⟩
  | true =>
    cases b2 with
    | false =>
      have e1 : o = none := by rw [← Ho.out, if_neg (by simp)]
      subst e1
      clear Ho
      go_enter Tryz.func229, Tryz.ntmps229
      go_wp2_with (first | (go_at_call_of 125 (Value.string ⟨s.toArray⟩); refine (u1.out _).mono ?_; rintro e w' ⟨rfl, n1, rfl⟩) | (go_at_call_of 125 (Value.string ⟨r1.toArray⟩); refine (u2.out _).mono ?_; rintro e w' ⟨rfl, n2, rfl⟩) | (go_at_call 187; refine (u3.out _).mono ?_; rintro e w' ⟨rfl, rfl⟩) | (go_at_call 204; refine (u4.out _).mono ?_; rintro e w' ⟨rfl, rfl⟩) | (go_at_call_of 125 (Value.string ⟨r4.toArray⟩); refine (u5.out _).mono ?_; rintro e w' ⟨rfl, n5, rfl⟩))
      obtain ⟨W0, hW0⟩ : ∃ W0, (w.alloc (.cells #[.string ⟨#[]⟩, .string ⟨#[]⟩, .string ⟨#[]⟩, .string ⟨#[]⟩, .string ⟨#[]⟩] 249)).drewN (n1 + n2 + n5) = W0 := ⟨_, rfl⟩
      have hb0 : W0.heap[w.heap.size]? = some (.cells #[.string ⟨#[]⟩, .string ⟨#[]⟩, .string ⟨#[]⟩, .string ⟨#[]⟩, .string ⟨#[]⟩] 249 (0, 0)) := by rw [← hW0]; exact World.alloc_heap_new w _
      have hB0 : Below w.heap.size w W0 := by rw [← hW0]; exact (box_below w _).trans (below_draws _)
      rw [hW0]
      obtain ⟨W1, hW1⟩ : ∃ W1, put5 W0 w.heap.size (.string ⟨#[]⟩) (.string ⟨#[]⟩) (.string ⟨#[]⟩) (.string ⟨#[]⟩) (.string ⟨#[]⟩) = W1 := ⟨_, rfl⟩
      have hb1 := put5_heap hb0 (.string ⟨#[]⟩) (.string ⟨#[]⟩) (.string ⟨#[]⟩) (.string ⟨#[]⟩) (.string ⟨#[]⟩)
      have hB1 := put5_below hB0 (Nat.le_refl _) (.string ⟨#[]⟩) (.string ⟨#[]⟩) (.string ⟨#[]⟩) (.string ⟨#[]⟩) (.string ⟨#[]⟩)
      rw [hW1] at hb1 hB1
      unfold put5 at hW1
      rw [hW1]
      have k0 := cell_at hb1 0
      have k1 := cell_at hb1 1
      have k2 := cell_at hb1 2
      have k3 := cell_at hb1 3
      have k4 := cell_at hb1 4
      simp at k0 k1 k2 k3 k4
      exact bodyPost_ret (v := .tuple #[partsV none, .bool false]) (by simp [results, Tryz.f229, go_sem, k0, k1, k2, k3, k4, partsV]) rfl ⟨rfl, hB1⟩
    | true =>
      by_cases h0 : e = 0
      · have e1 : o = none := by rw [← Ho.out, if_neg (by simp [h0])]
        subst e1
        have h0' : ((e : Int) == 0) = true := by simp [h0]
        clear Ho h0
        go_enter Tryz.func229, Tryz.ntmps229
        go_wp2_with (first | (go_at_call_of 125 (Value.string ⟨s.toArray⟩); refine (u1.out _).mono ?_; rintro e w' ⟨rfl, n1, rfl⟩) | (go_at_call_of 125 (Value.string ⟨r1.toArray⟩); refine (u2.out _).mono ?_; rintro e w' ⟨rfl, n2, rfl⟩) | (go_at_call 187; refine (u3.out _).mono ?_; rintro e w' ⟨rfl, rfl⟩) | (go_at_call 204; refine (u4.out _).mono ?_; rintro e w' ⟨rfl, rfl⟩) | (go_at_call_of 125 (Value.string ⟨r4.toArray⟩); refine (u5.out _).mono ?_; rintro e w' ⟨rfl, n5, rfl⟩))
        obtain ⟨W0, hW0⟩ : ∃ W0, (w.alloc (.cells #[.string ⟨#[]⟩, .string ⟨#[]⟩, .string ⟨#[]⟩, .string ⟨#[]⟩, .string ⟨#[]⟩] 249)).drewN (n1 + n2 + n5) = W0 := ⟨_, rfl⟩
        have hb0 : W0.heap[w.heap.size]? = some (.cells #[.string ⟨#[]⟩, .string ⟨#[]⟩, .string ⟨#[]⟩, .string ⟨#[]⟩, .string ⟨#[]⟩] 249 (0, 0)) := by rw [← hW0]; exact World.alloc_heap_new w _
        have hB0 : Below w.heap.size w W0 := by rw [← hW0]; exact (box_below w _).trans (below_draws _)
        rw [hW0]
        obtain ⟨W1, hW1⟩ : ∃ W1, put5 W0 w.heap.size (.string ⟨#[]⟩) (.string ⟨#[]⟩) (.string ⟨#[]⟩) (.string ⟨#[]⟩) (.string ⟨#[]⟩) = W1 := ⟨_, rfl⟩
        have hb1 := put5_heap hb0 (.string ⟨#[]⟩) (.string ⟨#[]⟩) (.string ⟨#[]⟩) (.string ⟨#[]⟩) (.string ⟨#[]⟩)
        have hB1 := put5_below hB0 (Nat.le_refl _) (.string ⟨#[]⟩) (.string ⟨#[]⟩) (.string ⟨#[]⟩) (.string ⟨#[]⟩) (.string ⟨#[]⟩)
        rw [hW1] at hb1 hB1
        unfold put5 at hW1
        rw [hW1]
        have k0 := cell_at hb1 0
        have k1 := cell_at hb1 1
        have k2 := cell_at hb1 2
        have k3 := cell_at hb1 3
        have k4 := cell_at hb1 4
        simp at k0 k1 k2 k3 k4
        exact bodyPost_ret (v := .tuple #[partsV none, .bool false]) (by simp [results, Tryz.f229, go_sem, k0, k1, k2, k3, k4, partsV]) rfl ⟨rfl, hB1⟩
      · have h0' : ((e : Int) == 0) = false := by simp; omega
        replace h0 := hide h0
        cases b4 with
        | false =>
          have e1 : o = none := by rw [← Ho.out, if_neg (by simp)]
          subst e1
          clear Ho
          go_enter Tryz.func229, Tryz.ntmps229
          go_wp2_with (first | (go_at_call_of 125 (Value.string ⟨s.toArray⟩); refine (u1.out _).mono ?_; rintro e w' ⟨rfl, n1, rfl⟩) | (go_at_call_of 125 (Value.string ⟨r1.toArray⟩); refine (u2.out _).mono ?_; rintro e w' ⟨rfl, n2, rfl⟩) | (go_at_call 187; refine (u3.out _).mono ?_; rintro e w' ⟨rfl, rfl⟩) | (go_at_call 204; refine (u4.out _).mono ?_; rintro e w' ⟨rfl, rfl⟩) | (go_at_call_of 125 (Value.string ⟨r4.toArray⟩); refine (u5.out _).mono ?_; rintro e w' ⟨rfl, n5, rfl⟩))
          obtain ⟨W0, hW0⟩ : ∃ W0, (w.alloc (.cells #[.string ⟨#[]⟩, .string ⟨#[]⟩, .string ⟨#[]⟩, .string ⟨#[]⟩, .string ⟨#[]⟩] 249)).drewN (n1 + n2 + n5) = W0 := ⟨_, rfl⟩
          have hb0 : W0.heap[w.heap.size]? = some (.cells #[.string ⟨#[]⟩, .string ⟨#[]⟩, .string ⟨#[]⟩, .string ⟨#[]⟩, .string ⟨#[]⟩] 249 (0, 0)) := by rw [← hW0]; exact World.alloc_heap_new w _
          have hB0 : Below w.heap.size w W0 := by rw [← hW0]; exact (box_below w _).trans (below_draws _)
          rw [hW0]
          obtain ⟨W1, hW1⟩ : ∃ W1, put5 W0 w.heap.size (.string ⟨#[]⟩) (.string ⟨#[]⟩) (.string ⟨#[]⟩) (.string ⟨#[]⟩) (.string ⟨#[]⟩) = W1 := ⟨_, rfl⟩
          have hb1 := put5_heap hb0 (.string ⟨#[]⟩) (.string ⟨#[]⟩) (.string ⟨#[]⟩) (.string ⟨#[]⟩) (.string ⟨#[]⟩)
          have hB1 := put5_below hB0 (Nat.le_refl _) (.string ⟨#[]⟩) (.string ⟨#[]⟩) (.string ⟨#[]⟩) (.string ⟨#[]⟩) (.string ⟨#[]⟩)
          rw [hW1] at hb1 hB1
          unfold put5 at hW1
          rw [hW1]
          have k0 := cell_at hb1 0
          have k1 := cell_at hb1 1
          have k2 := cell_at hb1 2
          have k3 := cell_at hb1 3
          have k4 := cell_at hb1 4
          simp at k0 k1 k2 k3 k4
          exact bodyPost_ret (v := .tuple #[partsV none, .bool false]) (by simp [results, Tryz.f229, go_sem, k0, k1, k2, k3, k4, partsV]) rfl ⟨rfl, hB1⟩
        | true =>
          cases b5 with
          | false =>
            have e1 : o = none := by rw [← Ho.out, if_neg (by simp)]
            subst e1
            clear Ho
            go_enter Tryz.func229, Tryz.ntmps229
            go_wp2_with (first | (go_at_call_of 125 (Value.string ⟨s.toArray⟩); refine (u1.out _).mono ?_; rintro e w' ⟨rfl, n1, rfl⟩) | (go_at_call_of 125 (Value.string ⟨r1.toArray⟩); refine (u2.out _).mono ?_; rintro e w' ⟨rfl, n2, rfl⟩) | (go_at_call 187; refine (u3.out _).mono ?_; rintro e w' ⟨rfl, rfl⟩) | (go_at_call 204; refine (u4.out _).mono ?_; rintro e w' ⟨rfl, rfl⟩) | (go_at_call_of 125 (Value.string ⟨r4.toArray⟩); refine (u5.out _).mono ?_; rintro e w' ⟨rfl, n5, rfl⟩))
            obtain ⟨W0, hW0⟩ : ∃ W0, (w.alloc (.cells #[.string ⟨#[]⟩, .string ⟨#[]⟩, .string ⟨#[]⟩, .string ⟨#[]⟩, .string ⟨#[]⟩] 249)).drewN (n1 + n2 + n5) = W0 := ⟨_, rfl⟩
            have hb0 : W0.heap[w.heap.size]? = some (.cells #[.string ⟨#[]⟩, .string ⟨#[]⟩, .string ⟨#[]⟩, .string ⟨#[]⟩, .string ⟨#[]⟩] 249 (0, 0)) := by rw [← hW0]; exact World.alloc_heap_new w _
            have hB0 : Below w.heap.size w W0 := by rw [← hW0]; exact (box_below w _).trans (below_draws _)
            rw [hW0]
            obtain ⟨W1, hW1⟩ : ∃ W1, put5 W0 w.heap.size (.string ⟨#[]⟩) (.string ⟨#[]⟩) (.string ⟨#[]⟩) (.string ⟨#[]⟩) (.string ⟨#[]⟩) = W1 := ⟨_, rfl⟩
            have hb1 := put5_heap hb0 (.string ⟨#[]⟩) (.string ⟨#[]⟩) (.string ⟨#[]⟩) (.string ⟨#[]⟩) (.string ⟨#[]⟩)
            have hB1 := put5_below hB0 (Nat.le_refl _) (.string ⟨#[]⟩) (.string ⟨#[]⟩) (.string ⟨#[]⟩) (.string ⟨#[]⟩) (.string ⟨#[]⟩)
            rw [hW1] at hb1 hB1
            unfold put5 at hW1
            rw [hW1]
            have k0 := cell_at hb1 0
            have k1 := cell_at hb1 1
            have k2 := cell_at hb1 2
            have k3 := cell_at hb1 3
            have k4 := cell_at hb1 4
            simp at k0 k1 k2 k3 k4
            exact bodyPost_ret (v := .tuple #[partsV none, .bool false]) (by simp [results, Tryz.f229, go_sem, k0, k1, k2, k3, k4, partsV]) rfl ⟨rfl, hB1⟩
          | true =>
            have e1 : o = some ⟨site, seq, r2.take e, key, val⟩ := by rw [← Ho.out, if_pos ⟨rfl, rfl, h0.out, rfl, rfl⟩]
            subst e1
            clear Ho
            go_enter Tryz.func229, Tryz.ntmps229
            go_wp2_with (first | (go_at_call_of 125 (Value.string ⟨s.toArray⟩); refine (u1.out _).mono ?_; rintro e w' ⟨rfl, n1, rfl⟩) | (go_at_call_of 125 (Value.string ⟨r1.toArray⟩); refine (u2.out _).mono ?_; rintro e w' ⟨rfl, n2, rfl⟩) | (go_at_call 187; refine (u3.out _).mono ?_; rintro e w' ⟨rfl, rfl⟩) | (go_at_call 204; refine (u4.out _).mono ?_; rintro e w' ⟨rfl, rfl⟩) | (go_at_call_of 125 (Value.string ⟨r4.toArray⟩); refine (u5.out _).mono ?_; rintro e w' ⟨rfl, n5, rfl⟩))
            obtain ⟨W0, hW0⟩ : ∃ W0, (w.alloc (.cells #[.string ⟨#[]⟩, .string ⟨#[]⟩, .string ⟨#[]⟩, .string ⟨#[]⟩, .string ⟨#[]⟩] 249)).drewN (n1 + n2 + n5) = W0 := ⟨_, rfl⟩
            have hb0 : W0.heap[w.heap.size]? = some (.cells #[.string ⟨#[]⟩, .string ⟨#[]⟩, .string ⟨#[]⟩, .string ⟨#[]⟩, .string ⟨#[]⟩] 249 (0, 0)) := by rw [← hW0]; exact World.alloc_heap_new w _
            have hB0 : Below w.heap.size w W0 := by rw [← hW0]; exact (box_below w _).trans (below_draws _)
            rw [hW0]
            obtain ⟨W1, hW1⟩ : ∃ W1, put5 W0 w.heap.size (.string ⟨site.toArray⟩) (.string ⟨seq.toArray⟩) (.string ⟨(r2.take e).toArray⟩) (.string ⟨key.toArray⟩) (.string ⟨val.toArray⟩) = W1 := ⟨_, rfl⟩
            have hb1 := put5_heap hb0 (.string ⟨site.toArray⟩) (.string ⟨seq.toArray⟩) (.string ⟨(r2.take e).toArray⟩) (.string ⟨key.toArray⟩) (.string ⟨val.toArray⟩)
            have hB1 := put5_below hB0 (Nat.le_refl _) (.string ⟨site.toArray⟩) (.string ⟨seq.toArray⟩) (.string ⟨(r2.take e).toArray⟩) (.string ⟨key.toArray⟩) (.string ⟨val.toArray⟩)
            rw [hW1] at hb1 hB1
            unfold put5 at hW1
            rw [hW1]
            have k0 := cell_at hb1 0
            have k1 := cell_at hb1 1
            have k2 := cell_at hb1 2
            have k3 := cell_at hb1 3
            have k4 := cell_at hb1 4
            simp at k0 k1 k2 k3 k4
            exact bodyPost_ret (v := .tuple #[partsV (some ⟨site, seq, r2.take e, key, val⟩), .bool true]) (by simp [results, Tryz.f229, go_sem, k0, k1, k2, k3, k4, partsV]) rfl ⟨rfl, hB1⟩

end Go.Proofs.YtjbjjfndkpcciaaGreatDoor

/- slices.Clone at vec.Vec; rec's copied. Own work; no statement. -/
set_option linter.unusedSimpArgs false
set_option linter.unusedVariables false
namespace Go.Proofs.YtjbjjfndkpcciaaGreatDoor
open Go.RowKit Go.Sort

theorem row_of_nil (w : World) (B : Nat) (e : TypeId) : w.ownsRow B e 1 (.slice none 0 0) 0 [] := World.ownsRow_nil w B e 1

set_option maxHeartbeats 2000000 in
set_option maxRecDepth 100000 in
theorem cloneVec_calls (v : Value) (l : List Int) (w : World) (hv : IsNums .i64 w v l) (hl : l.length ≤ 17592186044416) :
    Calls Tryz.prog 79 #[v] w fun e w' => ∃ v', e = .returned v' ∧ w'.ownsRow w.heap.size 3 1 v' l.length (l.map (Value.int .i64)) ∧ Below w.heap.size w w' := by
  obtain ⟨i0, hi, hz0, hz1, hz2⟩ := info_parts Tryz.info3
  have q22 : ∀ (w : World) (a : Option Addr) (n c n' c' : Nat), (binOp .eql 34 (.slice a n c) (.slice none n' c')).run Tryz.prog w = .ok (.bool a.isNone) w := fun w a n c n' c' => Lib.run_eql_slice_nil w _ _ a n c n' c' Tryz.underlying34
  obtain ⟨a, cap, rfl, hcap, hcell⟩ := hv
  cases a with
  | none =>
    have hl0 : l = [] := by
      cases l with
      | nil => rfl
      | cons x xs => obtain ⟨b, o, e, -⟩ := hcell 0 (by simp); cases e
    subst hl0
    clear hcell hcap
    go_enter Tryz.func79, Tryz.ntmps79
    go_wp2
    go_ret
    exact ⟨_, rfl, World.ownsRow_nil _ _ _ _, Below.refl _ _⟩
  | some ad =>
    have hnews : ∀ j u, (l.map (Value.int .i64))[j]? = some u → (w.alloc (.cells #[] 3)).cell? (ad.add j) = some u := by
      intro j u hj
      have hjl : j < l.length := by have := (List.getElem?_eq_some_iff.1 hj).1; simpa using this
      obtain ⟨b, o, e, hc⟩ := hcell j hjl
      cases e
      rw [Addr.add_lit]
      refine Lib.cell?_alloc_some _ ?_
      rw [hc, ← hj]
      simp [hjl]
    have A := hide hnews
    clear hnews hcell
    go_enter Tryz.func79, Tryz.ntmps79
    go_wp2_with (at_builtin; refine wpList_append_own _ rfl _ _ 34 rfl w.heap.size 3 i0 (.int .i64 0) 1 8 Tryz.underlying34 hi hz0 hz1 hz2 rfl (by decide) _ _ _ rfl (World.ownsRow_made w #[] 0 (Nat.le_refl _) (Nat.zero_le _) rfl) ad l.length cap (l.map (Value.int .i64)) rfl ?qc1 A.out ?qc3 ?qc4 ?qc5 ?qc6 ?_)
    case qc1 => simp
    case qc3 => intro u hu; obtain ⟨x, _, rfl⟩ := List.mem_map.1 hu; rfl
    case qc4 => unfold maxLen; omega
    case qc5 => omega
    case qc6 => simp
    intro v' w1 hown hgrow hnil
    go_wp2
    go_ret
    refine ⟨v', rfl, by simpa using hown, ?_⟩
    exact ((Below.refl _ w).alloc (Nat.le_refl _) _).grown hgrow (by simp) (by intro k hk; simp [Value.ownBlock] at hk; omega)

theorem frozen_at {W : World} {b : Nat} {c : Array Value} {t : TypeId} (h : W.heap[b]? = some (.cells c t (0, 0))) (j : Nat) : W.frozen? ⟨b, j, none⟩ = false := by
  simp [World.frozen?, h]

/-- A record by value, with its numbers in memory of its own from block B on. -/
def OwnRec (B : Nat) (w : World) (v : Value) (r : RecD) : Prop :=
  ∃ vd, v = .agg #[.int .i64 r.site, .int .i64 r.seq, vd, .string r.key, .string r.val] ∧ w.ownsRow B 3 1 vd r.dep.length (r.dep.map (Value.int .i64))

theorem OwnRec.isRec {B : Nat} {w : World} {v : Value} {r : RecD} (h : OwnRec B w v r) : IsRec w v r := by
  obtain ⟨vd, rfl, ho⟩ := h
  obtain ⟨a, cap, rfl⟩ := ownsRow_slice ho
  exact ⟨a, cap, rfl, IsNums.of_row ho⟩

set_option maxHeartbeats 2000000 in
set_option maxRecDepth 100000 in
theorem segCopied_calls (v : Value) (r : RecD) (w : World) (hv : IsRec w v r) (hl : r.dep.length ≤ 17592186044416) :
    Calls Tryz.prog 133 #[v] w fun e w' => ∃ v', e = .returned v' ∧ OwnRec w.heap.size w' v' r ∧ Below w.heap.size w w' := by
  obtain ⟨site, seq, dep, key, val⟩ := r
  obtain ⟨a, cap, rfl, hn⟩ := hv
  dsimp only at *
  obtain ⟨W0, hW0⟩ : ∃ W0, (w.alloc (.cells #[.int .i64 site, .int .i64 seq, .slice a dep.length cap, .string key, .string val] 36)).alloc (.cells #[.int .i64 0, .int .i64 0, .slice none 0 0, .string ⟨#[]⟩, .string ⟨#[]⟩] 36) = W0 := ⟨_, rfl⟩
  have HB : Below w.heap.size w W0 := by rw [← hW0]; exact (box_below w _).alloc (by simp) _
  have hsz : W0.heap.size = w.heap.size + 2 := by rw [← hW0]; simp
  have h0 : W0.heap[w.heap.size]? = some (.cells #[.int .i64 site, .int .i64 seq, .slice a dep.length cap, .string key, .string val] 36 (0, 0)) := by
    rw [← hW0]; exact (Below.heap_alloc _ _ _ (by simp)).trans (World.alloc_heap_new w _)
  have h1 : W0.heap[w.heap.size + 1]? = some (.cells #[.int .i64 0, .int .i64 0, .slice none 0 0, .string ⟨#[]⟩, .string ⟨#[]⟩] 36 (0, 0)) := by
    have := World.alloc_heap_new (w.alloc (.cells #[.int .i64 site, .int .i64 seq, .slice a dep.length cap, .string key, .string val] 36)) (.cells #[.int .i64 0, .int .i64 0, .slice none 0 0, .string ⟨#[]⟩, .string ⟨#[]⟩] 36)
    rw [hW0, World.size_alloc] at this
    exact this
  have C := hide (cloneVec_calls _ dep W0 (hn.below HB) hl)
  have HW := hide hW0
  clear hW0 hn
  go_enter Tryz.func133, Tryz.ntmps133
  go_wp2_with fail
  rw [HW.out]
  refine C.out.mono ?_
  rintro e w1 ⟨v', rfl, hown, hB1⟩
  obtain ⟨a', cap', rfl⟩ := ownsRow_slice hown
  have e0 := (hB1.block w.heap.size (by omega)).trans h0
  have e1 := (hB1.block (w.heap.size + 1) (by omega)).trans h1
  have hB := HB.trans (hB1.mono HB.size)
  have hs1 := hB1.size
  have Hown := hide hown
  clear C HW h0 h1 HB hB1 hown
  have c0 := cell_at e0 0
  have c1 := cell_at e0 1
  have c2 := cell_at e0 2
  have c3 := cell_at e0 3
  have c4 := cell_at e0 4
  have d0 := cell_at e1 0
  have d1 := cell_at e1 1
  have d2 := cell_at e1 2
  have d3 := cell_at e1 3
  have d4 := cell_at e1 4
  simp only [List.getElem?_toArray, List.getElem?_cons_zero, List.getElem?_cons_succ] at c0 c1 c2 c3 c4 d0 d1 d2 d3 d4
  have f2 := frozen_at e0 2
  have g0 := frozen_at e1 0
  have g1 := frozen_at e1 1
  have g2 := frozen_at e1 2
  have g3 := frozen_at e1 3
  have g4 := frozen_at e1 4
  have E0 := hide e0
  have E1 := hide e1
  clear e0 e1
  go_wp2
  obtain ⟨W2, hW2⟩ : ∃ W2, put5 (w1.setCell ⟨w.heap.size, 2, none⟩ (.slice a' dep.length cap')) (w.heap.size + 1) (.int .i64 site) (.int .i64 seq) (.slice a' dep.length cap') (.string key) (.string val) = W2 := ⟨_, rfl⟩
  have e2 := put5_heap ((Below.heap_setCell w1 ⟨w.heap.size, 2, none⟩ (.slice a' dep.length cap') (w.heap.size + 1) (by simp)).trans E1.out) (.int .i64 site) (.int .i64 seq) (.slice a' dep.length cap') (.string key) (.string val)
  have hB2 := put5_below (hB.setCell (p := ⟨w.heap.size, 2, none⟩) (Nat.le_refl _) (.slice a' dep.length cap')) (show w.heap.size ≤ w.heap.size + 1 by omega) (.int .i64 site) (.int .i64 seq) (.slice a' dep.length cap') (.string key) (.string val)
  have hoth : ∀ k, W0.heap.size ≤ k → W2.heap[k]? = w1.heap[k]? := fun k hk => by rw [← hW2, put5_other k (by omega)]; exact Below.heap_setCell _ ⟨w.heap.size, 2, none⟩ _ k (by simp; omega)
  rw [hW2] at e2 hB2
  unfold put5 at hW2
  rw [hW2]
  clear hW2 c0 c1 c2 c3 c4 d0 d1 d2 d3 d4 f2 g0 g1 g2 g3 g4
  have k0 := cell_at e2 0
  have k1 := cell_at e2 1
  have k2 := cell_at e2 2
  have k3 := cell_at e2 3
  have k4 := cell_at e2 4
  simp only [List.getElem?_toArray, List.getElem?_cons_zero, List.getElem?_cons_succ] at k0 k1 k2 k3 k4
  refine bodyPost_ret (v := .agg #[.int .i64 site, .int .i64 seq, .slice a' dep.length cap', .string key, .string val]) (by simp [results, Tryz.f133, go_sem, k0, k1, k2, k3, k4]) rfl ⟨_, rfl, ⟨_, rfl, ?_⟩, hB2⟩
  exact ownsRow_low (ownsRow_of_heap Hown.out fun k hk => hoth k (Hown.out.lt k hk).1) (by omega)

end Go.Proofs.YtjbjjfndkpcciaaGreatDoor
