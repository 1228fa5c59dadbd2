/- Own work: the parts RW, S5, S6, S7, S8p of the proof, laid together. -/
import Derived.Test.YtncmocmmkbmmjaaGreatDoorPartSegOnce5
import Derived.Test.YtncmocmmkbmmjaaGreatDoorPartSegOnce7
/- Plain laws: a record in words is read again as it was. Own work; no statement. -/
set_option linter.unusedSimpArgs false
set_option linter.unusedVariables false
namespace Go.Proofs.YtncmocmmkbmmjaaGreatDoor

theorem index_at : ∀ (a b : List UInt8) (x : UInt8), (∀ c ∈ a, c ≠ x) → Lib.indexByte (a ++ x :: b) x = a.length
  | [], b, x, _ => by simp [Lib.indexByte]
  | c :: a, b, x, h => by
    have ih := index_at a b x (fun d hd => h d (by simp [hd]))
    have hc : (c == x) = false := by simpa using h c (by simp)
    have hn : ¬ (a.length : Int) = -1 := by omega
    simp [Lib.indexByte, hc, ih, hn]

theorem cut_at (a b : List UInt8) (x : UInt8) (h : ∀ c ∈ a, c ≠ x) : cutL (a ++ x :: b) x = (a, b, true) := by
  unfold cutL
  rw [index_at a b x h, if_neg (by omega)]
  simp

theorem dig_ne {c x : UInt8} (h : digB c = true) (hx : x.toNat < 48 ∨ 57 < x.toNat) : c ≠ x := by
  intro e
  subst e
  simp only [digB, decide_eq_true_eq] at h
  omega

theorem decToM_val {m : Int} (hm : 0 ≤ m) : ∀ (l : List UInt8) (n : Int), (∀ c ∈ l, digB c = true) → 0 ≤ n → decToM m l (min n (m + 1)) = min (valTo l n) (m + 1)
  | [], n, _, _ => rfl
  | c :: l, n, h, h0 => by
    have hc := dig_range (h c (by simp))
    have ih := decToM_val hm l (10 * n + ((c.toNat : Int) - 48)) (fun d hd => h d (by simp [hd])) (by omega)
    simp only [decToM, valTo]
    rw [← ih]
    congr 1
    omega

theorem valTo_digits (u : Nat) : valTo (Lib.decDigits u) 0 = u := by
  induction u using Nat.strongRecOn with
  | _ u ih =>
    rw [Lib.decDigits]
    split
    · rename_i h
      simp only [valTo]
      rw [digit_val u h]
      omega
    · rename_i h
      rw [valTo_snoc, ih (u / 10) (by omega), digit_val (u % 10) (by omega)]
      omega

theorem numL_itoa {x : Int} (h0 : 0 ≤ x) (h1 : x ≤ 2147483647) : numL (Lib.itoa x) = (x, true) := by
  rw [itoa_nat x h0]
  have hv : decToM 2147483647 (Lib.decDigits x.toNat) 0 = x := by
    have := decToM_val (m := 2147483647) (by omega) (Lib.decDigits x.toNat) 0 (decDigits_all _) (Int.le_refl _)
    rw [show min (0 : Int) (2147483647 + 1) = 0 by omega, valTo_digits] at this
    rw [this]
    omega
  unfold numL
  rw [decOk_digits, hv, if_pos ⟨rfl, h1⟩]

theorem nums_no93 {l : List Int} (h : InS l) : ∀ k, ∀ c ∈ numsTo l k, c ≠ 93
  | 0 => by simp [numsTo]
  | k + 1 => by
    intro c hc
    simp only [numsTo, List.mem_append] at hc
    rcases hc with hc | hc | hc
    · exact nums_no93 h k c hc
    · split at hc
      · simp at hc
      · simp at hc
        subst hc
        decide
    · rw [itoa_nat _ (getD_inS h k).1] at hc
      exact dig_ne (decDigits_all _ c hc) (by decide)

theorem key_ne {l : List UInt8} (h : isKeyL l = true) : ∀ c ∈ l, c ≠ 61 := by
  intro c hc e
  subst e
  unfold isKeyL at h
  simp only [Bool.and_eq_true, List.all_eq_true] at h
  have := h.2 61 hc
  revert this
  decide

theorem itoa_ne {x : Int} (h : 0 ≤ x) {y : UInt8} (hy : y.toNat < 48 ∨ 57 < y.toNat) : ∀ c ∈ Lib.itoa x, c ≠ y := by
  intro c hc
  rw [itoa_nat x h] at hc
  exact dig_ne (decDigits_all _ c hc) hy

theorem textR_list (r : RecD) : (textR r).data.toList = Lib.itoa r.site ++ 58 :: (Lib.itoa r.seq ++ 32 :: (textL r.dep ++ 32 :: (r.key.data.toList ++ 61 :: r.val.data.toList))) := by
  unfold textR
  simp [ByteArray.data_append]

theorem split_text (r : RecD) (h0 : 0 ≤ r.site) (h1 : 0 ≤ r.seq) (hd : InS r.dep) (hk : isKeyL r.key.data.toList = true) :
    splitR (textR r).data.toList = some ⟨Lib.itoa r.site, Lib.itoa r.seq, textL r.dep, r.key.data.toList, r.val.data.toList⟩ := by
  rw [textR_list]
  unfold splitR
  rw [cut_at _ _ 58 (itoa_ne h0 (by decide))]
  dsimp only
  rw [cut_at _ _ 32 (itoa_ne h1 (by decide))]
  dsimp only
  have hix : Lib.indexByte (textL r.dep ++ 32 :: (r.key.data.toList ++ 61 :: r.val.data.toList)) 93 = (numsTo r.dep (writtenL r.dep)).length + 1 := by
    have := index_at (91 :: numsTo r.dep (writtenL r.dep)) (32 :: (r.key.data.toList ++ 61 :: r.val.data.toList)) 93 (by
      intro c hc
      rcases List.mem_cons.1 hc with rfl | hc
      · decide
      · exact nums_no93 hd _ c hc)
    unfold textL
    simpa using this
  rw [hix]
  have hlen : (textL r.dep).length = (numsTo r.dep (writtenL r.dep)).length + 2 := by simp [textL]
  have he : (((numsTo r.dep (writtenL r.dep)).length : Int) + 1 + 1).toNat = (textL r.dep).length := by rw [hlen]; omega
  rw [he, List.drop_left, List.take_left]
  have hp : Lib.hasPrefix (32 :: (r.key.data.toList ++ 61 :: r.val.data.toList)) [32] = true := by simp [Lib.hasPrefix, List.isPrefixOf]
  have ht : Lib.trimPrefix (32 :: (r.key.data.toList ++ 61 :: r.val.data.toList)) [32] = r.key.data.toList ++ 61 :: r.val.data.toList := by unfold Lib.trimPrefix; rw [hp]; simp
  rw [ht, hp, cut_at _ _ 61 (key_ne hk)]
  rw [if_pos ⟨rfl, rfl, by omega, rfl, rfl⟩]

theorem check_inS {l : List Int} {s : Int} (h : checkL l s = 0) : 1 ≤ s ∧ s ≤ 8 ∧ (l.length : Int) ≤ s ∧ InS l := by
  unfold checkL at h
  split at h
  · cases h
  · split at h
    · cases h
    · refine ⟨by omega, by omega, by omega, ?_⟩
      have : ∀ l : List Int, checkN l = 0 → InS l := by
        intro l
        induction l with
        | nil => intro _ x hx; simp at hx
        | cons n l ih =>
          intro h x hx
          simp only [checkN] at h
          split at h
          · cases h
          · split at h
            · cases h
            · rcases List.mem_cons.1 hx with rfl | hx
              · omega
              · exact ih h x hx
      exact this l h

theorem check_parts {r : RecD} {s : Int} (h : checkR r s = 0) : 1 ≤ s ∧ s ≤ 8 ∧ 0 ≤ r.site ∧ r.site < s ∧ 1 ≤ r.seq ∧ r.seq ≤ 1048576 ∧ (r.dep.length : Int) ≤ s ∧ InS r.dep ∧ geti r.dep r.site < r.seq ∧ isKeyL r.key.data.toList = true ∧ checkValL r.val.data.toList = 0 := by
  unfold checkR at h
  split at h
  · cases h
  · split at h
    · rename_i h1 h2
      split at h
      · cases h
      · split at h
        · rename_i h3 h4
          obtain ⟨a1, a2, a3, a4⟩ := check_inS h2
          exact ⟨by omega, by omega, by omega, by omega, by omega, by omega, a3, a4, by omega, h4, h⟩
        · cases h
    · rename_i h2
      exact absurd h h2

/-- What is read of a record's words. -/
def backR (r : RecD) : RecD := ⟨r.site, r.seq, r.dep.take (writtenL r.dep), r.key, r.val⟩

theorem geti_written (l : List Int) (i : Int) : geti (l.take (writtenL l)) i = geti l i := by
  have hs := same_written l
  rw [same_iff] at hs
  by_cases h : 0 ≤ i
  · obtain ⟨n, rfl⟩ := Int.eq_ofNat_of_zero_le h
    rw [geti_nat, geti_nat]
    exact (hs n).symm
  · unfold geti
    rw [if_pos (by omega), if_pos (by omega)]

theorem back_check {r : RecD} {s : Int} (h : checkR r s = 0) : checkR (backR r) 8 = 0 := by
  obtain ⟨a1, a2, a3, a4, a5, a6, a7, a8, a9, a10, a11⟩ := check_parts h
  unfold checkR backR
  dsimp only
  rw [if_neg (by omega), if_pos (check_ok _ (inS_take _ a8 _) (by rw [List.length_take]; omega)), geti_written, if_neg (by omega), if_pos a10]
  exact a11

theorem parse_textR {r : RecD} {s : Int} (h : checkR r s = 0) : parseR (textR r).data.toList = (backR r, 0) := by
  obtain ⟨a1, a2, a3, a4, a5, a6, a7, a8, a9, a10, a11⟩ := check_parts h
  have hb := back_check h
  unfold parseR
  rw [split_text r a3 (by omega) a8 a10]
  dsimp only
  unfold parseP
  rw [numL_itoa a3 (by omega), numL_itoa (by omega) (by omega), parse_text _ a8 (by omega)]
  dsimp only
  rw [if_pos ⟨rfl, rfl, rfl⟩, if_pos rfl]
  have e : (⟨r.site, r.seq, r.dep.take (writtenL r.dep), ⟨r.key.data.toList.toArray⟩, ⟨r.val.data.toList.toArray⟩⟩ : RecD) = backR r := by simp [backR]
  rw [e, hb, if_pos rfl]

theorem back_same (r : RecD) : sameR (backR r) r = true := by
  unfold sameR backR
  simp only [decide_true, Bool.true_and]
  have hs := same_written r.dep
  rw [same_iff] at hs ⊢
  exact fun i => (hs i).symm

end Go.Proofs.YtncmocmmkbmmjaaGreatDoor

/- seg's entries: text, parse. Own work; no statement. -/
set_option linter.unusedSimpArgs false
set_option linter.unusedVariables false
namespace Go.Proofs.YtncmocmmkbmmjaaGreatDoor
open Go.RowKit Go.Shelf Go.Sort

/-- An entry: its sign, a position or an epoch, a record. -/
structure EntD where
  sign : UInt8
  n : Int
  r : RecD

/-- In the world w the value v reads as the entry e; its record's numbers lie from B on. -/
def IsEnt (w : World) (B : Nat) (v : Value) (e : EntD) : Prop :=
  ∃ vd, v = .agg #[.string ⟨#[e.sign]⟩, .int .i64 e.n, .int .i64 e.r.site, .int .i64 e.r.seq, vd, .string e.r.key, .string e.r.val] ∧ w.ownsRow B 3 1 vd e.r.dep.length (e.r.dep.map (Value.int .i64))

theorem IsEnt.below {w w' : World} {B : Nat} {v : Value} {e : EntD} (h : IsEnt w B v e) (hb : Below w.heap.size w w') : IsEnt w' B v e := by
  obtain ⟨vd, rfl, hr⟩ := h
  exact ⟨vd, rfl, own_below hr hb⟩

/-- An entry in one line. -/
def textE (e : EntD) : ByteArray :=
  if e.sign = 112 then (⟨#[e.sign]⟩ : ByteArray) ++ ⟨#[32]⟩ ++ ⟨(Lib.itoa e.n).toArray⟩ ++ (⟨#[32]⟩ ++ textR e.r) else (⟨#[e.sign]⟩ : ByteArray) ++ ⟨#[32]⟩ ++ ⟨(Lib.itoa e.n).toArray⟩

theorem textR_size {r : RecD} (hs0 : -9223372036854775808 ≤ r.site) (hs1 : r.site ≤ 9223372036854775807) (hq0 : -9223372036854775808 ≤ r.seq) (hq1 : r.seq ≤ 9223372036854775807) (hr : InR r.dep) : (textR r).size ≤ 48 + 22 * r.dep.length + r.key.size + r.val.size := by
  have l1 := Lib.itoa_length_le r.site hs0 hs1
  have l2 := Lib.itoa_length_le r.seq hq0 hq1
  have l3 := textL_length hr
  unfold textR
  simp only [ByteArray.size_append]
  have z1 : (⟨(Lib.itoa r.site).toArray⟩ : ByteArray).size ≤ 21 := by simpa [ByteArray.size] using l1
  have z2 : (⟨(Lib.itoa r.seq).toArray⟩ : ByteArray).size ≤ 21 := by simpa [ByteArray.size] using l2
  have z3 : (⟨(textL r.dep).toArray⟩ : ByteArray).size ≤ 22 * r.dep.length + 2 := by simpa [ByteArray.size] using l3
  have z4 : (⟨#[58]⟩ : ByteArray).size = 1 := rfl
  have z5 : (⟨#[32]⟩ : ByteArray).size = 1 := rfl
  have z6 : (⟨#[61]⟩ : ByteArray).size = 1 := rfl
  omega

set_option maxHeartbeats 4000000 in
set_option maxRecDepth 100000 in
theorem entText_calls (B : Nat) (v : Value) (e : EntD) (w : World) (hv : IsEnt w B v e) (hn0 : -9223372036854775808 ≤ e.n) (hn1 : e.n ≤ 9223372036854775807) (hs0 : -9223372036854775808 ≤ e.r.site) (hs1 : e.r.site ≤ 9223372036854775807) (hq0 : -9223372036854775808 ≤ e.r.seq) (hq1 : e.r.seq ≤ 9223372036854775807) (hl : e.r.dep.length ≤ 4294967296) (hr : InR e.r.dep) (hks : e.r.key.size ≤ 1099511627776) (hvs : e.r.val.size ≤ 1099511627776) (hp : Pow w) :
    Calls Tryz.prog 80 #[v] w fun x w' => x = .returned (.string (textE e)) ∧ Below w.heap.size w w' := by
  obtain ⟨sign, n, r⟩ := e
  obtain ⟨vd, rfl, hd⟩ := hv
  dsimp only at *
  obtain ⟨a, cap, rfl⟩ := ownsRow_slice hd
  have HR := hide (fun w' (hb : Below w.heap.size w w') => recText_calls (.agg #[.int .i64 r.site, .int .i64 r.seq, .slice a r.dep.length cap, .string r.key, .string r.val]) r w' ⟨a, cap, rfl, (IsNums.of_row hd).below hb⟩ hs0 hs1 hq0 hq1 hl hr hks hvs (hp.below hb))
  have hts := textR_size hs0 hs1 hq0 hq1 hr
  have hts' : (textR r).size ≤ 4398046511104 := by omega
  clear hts
  obtain ⟨t, ht⟩ : ∃ t, textE ⟨sign, n, r⟩ = t := ⟨_, rfl⟩
  rw [ht]
  unfold textE at ht
  dsimp only at ht
  generalize textR r = T at *
  have l1 := Lib.itoa_length_le n hn0 hn1
  obtain ⟨P, hP⟩ : ∃ P : ByteArray, (⟨#[sign]⟩ : ByteArray) = P := ⟨_, rfl⟩
  have z0 : P.size = 1 := by rw [← hP]; rfl
  rw [hP] at ht ⊢
  have HB := box_below w (.cells #[.string P, .int .i64 n, .int .i64 r.site, .int .i64 r.seq, .slice a r.dep.length cap, .string r.key, .string r.val] 84)
  obtain ⟨W1, hW1⟩ : ∃ W1, w.alloc (.cells #[.string P, .int .i64 n, .int .i64 r.site, .int .i64 r.seq, .slice a r.dep.length cap, .string r.key, .string r.val] 84) = W1 := ⟨_, rfl⟩
  have x0 : W1.heap[w.heap.size]? = some (.cells #[.string P, .int .i64 n, .int .i64 r.site, .int .i64 r.seq, .slice a r.dep.length cap, .string r.key, .string r.val] 84 (0, 0)) := by rw [← hW1]; exact World.alloc_heap_new w _
  rw [hW1] at HB
  have k0 := cell_regrown (cells7 x0).1
  have k1 := cell_regrown (cells7 x0).2.1
  have q1 := hide (fun d os => Calls.regrown_of (itoa_calls n (grow (redrawn W1 d) os) hn0 hn1 ((hp.below HB).below (below_regrown W1 d os))))
  have z1 : (⟨(Lib.itoa n).toArray⟩ : ByteArray).size ≤ 21 := by simpa [ByteArray.size] using l1
  generalize (⟨(Lib.itoa n).toArray⟩ : ByteArray) = S1 at *
  have n1 : ¬ 9223372036854775807 < P.size + 1 := by omega
  have n2 : ¬ 9223372036854775807 < P.size + 1 + S1.size := by omega
  have Z0 := hide z0
  have Z1 := hide z1
  have HW := hide hW1
  have X0 := hide x0
  clear hW1 hp hr l1 x0 z0 z1
  have Ht := hide ht
  clear ht
  by_cases hsg : sign = 112
  · have e1 := Ht.out
    rw [if_pos hsg] at e1
    subst e1
    clear Ht
    have hPe : (P.toList == [112]) = true := by rw [← hP, hsg]; decide +kernel
    clear hP hsg
    go_enter Tryz.func80, Tryz.ntmps80
    go_wp2_with fail
    rw [HW.out]
    refine wp_region_quiet_below (by kernel_rfl) (by kernel_rfl) ?_
    repeat (quiet_step (first | exact q1.out _ _))
    refine wpQuiet_nil ?_
    intro _ hw'
    obtain ⟨⟨dq, osq⟩, hw''⟩ := hw'
    obtain ⟨W2, hW2⟩ : ∃ W2, grow (redrawn W1 dq) osq = W2 := ⟨_, rfl⟩
    have B2 : Below W1.heap.size W1 W2 := by rw [← hW2]; exact below_regrown W1 dq osq
    dsimp only at hw''
    rw [hW2] at hw''
    subst hw''
    clear hW2 k0 k1 q1
    have hB2 := HB.trans (B2.mono HB.size)
    have x2 := keepB X0.out B2
    obtain ⟨k0, k1, k2, k3, k4, k5, k6, -, -, -, -, -, -, -⟩ := cells7 x2
    obtain ⟨L, hL⟩ : ∃ L, P ++ ⟨#[32]⟩ ++ S1 = L := ⟨_, rfl⟩
    have zL : L.size ≤ 23 := by rw [← hL]; simp only [ByteArray.size_append]; have : (⟨#[32]⟩ : ByteArray).size = 1 := rfl; have := Z0.out; have := Z1.out; omega
    rw [hL]
    have HL := hide hL
    clear hL n1 n2
    clear x2
    have n3 : ¬ 9223372036854775807 < 1 + T.size := by omega
    have n4 : ¬ 9223372036854775807 < L.size + (1 + T.size) := by omega
    go_wp2_with (go_at_call 96; refine (HR.out _ hB2).mono ?_; rintro e w3 ⟨rfl, hb3⟩)
    rw [HL.out]
    go_ret
    exact ⟨rfl, hB2.trans (hb3.mono hB2.size)⟩
  · have e1 := Ht.out
    rw [if_neg hsg] at e1
    subst e1
    clear Ht
    have hPe : (P.toList == [112]) = false := by rw [← hP, Lib.toList_data]; simp [hsg]
    clear hP hsg
    go_enter Tryz.func80, Tryz.ntmps80
    go_wp2_with fail
    rw [HW.out]
    refine wp_region_quiet_below (by kernel_rfl) (by kernel_rfl) ?_
    repeat (quiet_step (first | exact q1.out _ _))
    refine wpQuiet_nil ?_
    intro _ hw'
    obtain ⟨⟨dq, osq⟩, hw''⟩ := hw'
    obtain ⟨W2, hW2⟩ : ∃ W2, grow (redrawn W1 dq) osq = W2 := ⟨_, rfl⟩
    have B2 : Below W1.heap.size W1 W2 := by rw [← hW2]; exact below_regrown W1 dq osq
    dsimp only at hw''
    rw [hW2] at hw''
    subst hw''
    clear hW2 k0 k1 q1
    have hB2 := HB.trans (B2.mono HB.size)
    have x2 := keepB X0.out B2
    have k0 := (cells7 x2).1
    clear x2
    go_wp2
    go_ret
    exact ⟨rfl, hB2⟩

/-- A line as an entry. -/
def parseE (l : List UInt8) : Option EntD :=
  if (cutL l 32).1 = [112] then
    (if (numL (cutL (cutL l 32).2.1 32).1).2 = true ∧ (parseR (cutL (cutL l 32).2.1 32).2.1).2 = 0 then some ⟨112, (numL (cutL (cutL l 32).2.1 32).1).1, (parseR (cutL (cutL l 32).2.1 32).2.1).1⟩ else none)
  else if (cutL l 32).1 = [115] then (if (numL (cutL l 32).2.1).2 = true then some ⟨115, (numL (cutL l 32).2.1).1, zeroR⟩ else none)
  else if (cutL l 32).1 = [99] then (if (numL (cutL l 32).2.1).2 = true then some ⟨99, (numL (cutL l 32).2.1).1, zeroR⟩ else none)
  else if (cutL l 32).1 = [116] then (if (numL (cutL l 32).2.1).2 = true then some ⟨116, (numL (cutL l 32).2.1).1, zeroR⟩ else none)
  else none

def putE (l : List UInt8) : Option EntD := if (numL (cutL l 32).1).2 = true ∧ (parseR (cutL l 32).2.1).2 = 0 then some ⟨112, (numL (cutL l 32).1).1, (parseR (cutL l 32).2.1).1⟩ else none
def numE (c : UInt8) (l : List UInt8) : Option EntD := if (numL l).2 = true then some ⟨c, (numL l).1, zeroR⟩ else none
theorem parseE_eq (l : List UInt8) : parseE l = if (cutL l 32).1 = [112] then putE (cutL l 32).2.1 else if (cutL l 32).1 = [115] then numE 115 (cutL l 32).2.1 else if (cutL l 32).1 = [99] then numE 99 (cutL l 32).2.1 else if (cutL l 32).1 = [116] then numE 116 (cutL l 32).2.1 else none := rfl

/-- What a parser of entries tells. -/
def GivesE (w : World) (o : Option EntD) (x : Ending) (w' : World) : Prop :=
  ∃ v, x = .returned (.tuple #[v, .bool o.isSome]) ∧ (∃ c n s q a m cap k z, v = .agg #[.string c, .int .i64 n, .int .i64 s, .int .i64 q, .slice a m cap, .string k, .string z]) ∧ (∀ e, o = some e → IsEnt w' w.heap.size v e) ∧ Below w.heap.size w w'

theorem zero_ent (B : Nat) (w : World) (c : UInt8) (n : Int) : IsEnt w B (.agg #[.string ⟨#[c]⟩, .int .i64 n, .int .i64 0, .int .i64 0, .slice none 0 0, .string ⟨#[]⟩, .string ⟨#[]⟩]) ⟨c, n, zeroR⟩ := ⟨_, rfl, World.ownsRow_nil _ _ _ _⟩

set_option maxHeartbeats 2000000 in
set_option maxRecDepth 100000 in
theorem parseNumber_calls (c : UInt8) (l : List UInt8) (w : World) (hs : l.length ≤ 1099511627776) :
    Calls Tryz.prog 66 #[.string ⟨#[c]⟩, .string ⟨l.toArray⟩] w (GivesE w (numE c l)) := by
  have u1 := hide (fun w => numParse_calls ⟨l.toArray⟩ w (by simpa [ByteArray.size] using hs))
  simp only [show (⟨l.toArray⟩ : ByteArray).data.toList = l from rfl] at u1
  obtain ⟨o, ho⟩ : ∃ o, numE c l = o := ⟨_, rfl⟩
  rw [ho]
  unfold numE at ho
  generalize numL l = p at *
  obtain ⟨n, b⟩ := p
  dsimp only at *
  have HB := box_below w (.cells #[.string ⟨#[]⟩, .int .i64 0, .int .i64 0, .int .i64 0, .slice none 0 0, .string ⟨#[]⟩, .string ⟨#[]⟩] 84)
  obtain ⟨W1, hW1⟩ : ∃ W1, w.alloc (.cells #[.string ⟨#[]⟩, .int .i64 0, .int .i64 0, .int .i64 0, .slice none 0 0, .string ⟨#[]⟩, .string ⟨#[]⟩] 84) = W1 := ⟨_, rfl⟩
  have x0 : W1.heap[w.heap.size]? = some (.cells #[.string ⟨#[]⟩, .int .i64 0, .int .i64 0, .int .i64 0, .slice none 0 0, .string ⟨#[]⟩, .string ⟨#[]⟩] 84 (0, 0)) := by rw [← hW1]; exact World.alloc_heap_new w _
  rw [hW1] at HB
  obtain ⟨k0, k1, k2, k3, k4, k5, k6, f0, f1, f2, f3, f4, f5, f6⟩ := cells7 x0
  have HW := hide hW1
  have X0 := hide x0
  clear hW1 x0
  cases b with
  | false =>
    simp at ho
    subst ho
    go_enter Tryz.func66, Tryz.ntmps66
    go_wp2_with (first | (go_at_call 88; rw [HW.out]; refine (u1.out _).mono ?_; rintro e w' ⟨rfl, hw'⟩; subst hw'))
    obtain ⟨W2, hW2⟩ : ∃ W2, put7 w' w.heap.size (.string ⟨#[]⟩) (.int .i64 0) (.int .i64 0) (.int .i64 0) (.slice none 0 0) (.string ⟨#[]⟩) (.string ⟨#[]⟩) = W2 := ⟨_, rfl⟩
    have e2 := put7_heap X0.out (.string ⟨#[]⟩) (.int .i64 0) (.int .i64 0) (.int .i64 0) (.slice none 0 0) (.string ⟨#[]⟩) (.string ⟨#[]⟩)
    have hB2 := put7_below HB (Nat.le_refl _) (.string ⟨#[]⟩) (.int .i64 0) (.int .i64 0) (.int .i64 0) (.slice none 0 0) (.string ⟨#[]⟩) (.string ⟨#[]⟩)
    rw [hW2] at e2 hB2
    unfold put7 put5 at hW2
    rw [hW2]
    clear hW2 k0 k1 k2 k3 k4 k5 k6 f0 f1 f2 f3 f4 f5 f6
    obtain ⟨k0, k1, k2, k3, k4, k5, k6, -, -, -, -, -, -, -⟩ := cells7 e2
    exact bodyPost_ret (v := .tuple #[.agg #[.string ⟨#[]⟩, .int .i64 0, .int .i64 0, .int .i64 0, .slice none 0 0, .string ⟨#[]⟩, .string ⟨#[]⟩], .bool false]) (by simp [results, Tryz.f66, go_sem, k0, k1, k2, k3, k4, k5, k6]) rfl ⟨_, rfl, ⟨_, _, _, _, _, _, _, _, _, rfl⟩, fun e h => (by cases h), hB2⟩
  | true =>
    simp at ho
    subst ho
    go_enter Tryz.func66, Tryz.ntmps66
    go_wp2_with (first | (go_at_call 88; rw [HW.out]; refine (u1.out _).mono ?_; rintro e w' ⟨rfl, hw'⟩; subst hw'))
    obtain ⟨W2, hW2⟩ : ∃ W2, put7 w' w.heap.size (.string ⟨#[c]⟩) (.int .i64 n) (.int .i64 0) (.int .i64 0) (.slice none 0 0) (.string ⟨#[]⟩) (.string ⟨#[]⟩) = W2 := ⟨_, rfl⟩
    have e2 := put7_heap X0.out (.string ⟨#[c]⟩) (.int .i64 n) (.int .i64 0) (.int .i64 0) (.slice none 0 0) (.string ⟨#[]⟩) (.string ⟨#[]⟩)
    have hB2 := put7_below HB (Nat.le_refl _) (.string ⟨#[c]⟩) (.int .i64 n) (.int .i64 0) (.int .i64 0) (.slice none 0 0) (.string ⟨#[]⟩) (.string ⟨#[]⟩)
    rw [hW2] at e2 hB2
    unfold put7 put5 at hW2
    rw [hW2]
    clear hW2 k0 k1 k2 k3 k4 k5 k6 f0 f1 f2 f3 f4 f5 f6
    obtain ⟨k0, k1, k2, k3, k4, k5, k6, -, -, -, -, -, -, -⟩ := cells7 e2
    exact bodyPost_ret (v := .tuple #[.agg #[.string ⟨#[c]⟩, .int .i64 n, .int .i64 0, .int .i64 0, .slice none 0 0, .string ⟨#[]⟩, .string ⟨#[]⟩], .bool true]) (by simp [results, Tryz.f66, go_sem, k0, k1, k2, k3, k4, k5, k6]) rfl ⟨_, rfl, ⟨_, _, _, _, _, _, _, _, _, rfl⟩, fun e h => (by cases h; exact zero_ent _ _ _ _), hB2⟩

end Go.Proofs.YtncmocmmkbmmjaaGreatDoor

/- seg's parsePut, parse. Own work; no statement. -/
set_option linter.unusedSimpArgs false
set_option linter.unusedVariables false
namespace Go.Proofs.YtncmocmmkbmmjaaGreatDoor
open Go.RowKit Go.Shelf Go.Sort

set_option maxHeartbeats 4000000 in
set_option maxRecDepth 100000 in
theorem parsePut_calls (l : List UInt8) (w : World) (hs : l.length ≤ 1099511627776) :
    Calls Tryz.prog 65 #[.string ⟨l.toArray⟩] w (GivesE w (putE l)) := by
  have u1 := hide (fun w => cut_calls l 32 w hs)
  have m1 := cutL_length l 32
  obtain ⟨o, ho⟩ : ∃ o, putE l = o := ⟨_, rfl⟩
  rw [ho]
  unfold putE at ho
  generalize cutL l 32 = c at *
  obtain ⟨word, text, b0⟩ := c
  dsimp only at *
  have u2 := hide (fun w => numParse_calls ⟨word.toArray⟩ w (by simp only [ByteArray.size, List.size_toArray]; omega))
  simp only [show (⟨word.toArray⟩ : ByteArray).data.toList = word from rfl] at u2
  have u3 := hide (fun w => recParse_calls text w (by omega))
  generalize numL word = p at *
  generalize parseR text = q at *
  obtain ⟨n, b⟩ := p
  obtain ⟨r, ec⟩ := q
  dsimp only at *
  have HB := box_below w (.cells #[.string ⟨#[]⟩, .int .i64 0, .int .i64 0, .int .i64 0, .slice none 0 0, .string ⟨#[]⟩, .string ⟨#[]⟩] 84)
  obtain ⟨W1, hW1⟩ : ∃ W1, w.alloc (.cells #[.string ⟨#[]⟩, .int .i64 0, .int .i64 0, .int .i64 0, .slice none 0 0, .string ⟨#[]⟩, .string ⟨#[]⟩] 84) = W1 := ⟨_, rfl⟩
  have x0 : W1.heap[w.heap.size]? = some (.cells #[.string ⟨#[]⟩, .int .i64 0, .int .i64 0, .int .i64 0, .slice none 0 0, .string ⟨#[]⟩, .string ⟨#[]⟩] 84 (0, 0)) := by rw [← hW1]; exact World.alloc_heap_new w _
  rw [hW1] at HB
  have HW := hide hW1
  have X0 := hide x0
  clear hW1 x0
  have Ho := hide ho
  clear ho
  go_enter Tryz.func65, Tryz.ntmps65
  go_wp2_with (first | (go_at_call 64; rw [HW.out]; refine (u1.out _).mono ?_; rintro e w' ⟨rfl, nq, hw'⟩; subst hw') | (go_at_call 88; refine (u2.out _).mono ?_; rintro e w' ⟨rfl, hw'⟩; subst hw'))
  refine (u3.out _).mono ?_
  rintro e w2 ⟨vr, rfl, ⟨vd, rfl, hown⟩, hB2⟩
  obtain ⟨a, cap, rfl⟩ := ownsRow_slice hown
  have B2 : Below w.heap.size w w2 := HB.trans (((below_draws nq).trans hB2).mono HB.size)
  have x2 := keepB (show (W1.drewN nq).heap[w.heap.size]? = _ from X0.out) hB2
  have lt2 := ltAt x2
  have hs1 := HB.size
  have own2 := ownsRow_low hown hs1
  have T : ∀ v0 v1 v2 v3 v4 v5 v6 W4, (put7 w2 w.heap.size v0 v1 v2 v3 v4 v5 v6).alloc (.cells #[.int .i64 r.site, .int .i64 r.seq, .slice a r.dep.length cap, .string r.key, .string r.val] 57) = W4 → W4.heap[w.heap.size]? = some (.cells #[v0, v1, v2, v3, v4, v5, v6] 84 (0, 0)) ∧ Below w.heap.size w W4 ∧ (∀ k, k < w2.heap.size → k ≠ w.heap.size → W4.heap[k]? = w2.heap[k]?) := by
    rintro v0 v1 v2 v3 v4 v5 v6 W4 rfl
    have hp := put7_heap x2 v0 v1 v2 v3 v4 v5 v6
    have hbb := put7_below B2 (Nat.le_refl _) v0 v1 v2 v3 v4 v5 v6
    have hsz : (put7 w2 w.heap.size v0 v1 v2 v3 v4 v5 v6).heap.size = w2.heap.size := by simp [put7, put5, World.setCell]
    exact ⟨(Below.heap_alloc _ _ _ (ltAt hp)).trans hp, hbb.alloc hbb.size _, fun k hk hne => (Below.heap_alloc _ _ _ (by omega)).trans (put7_other k hne _ _ _ _ _ _ _)⟩
  obtain ⟨k0, k1, k2, k3, k4, k5, k6, f0, f1, f2, f3, f4, f5, f6⟩ := cells7 x2
  have HT := hide T
  have X2 := hide x2
  have O2 := hide own2
  clear T x2 hown own2
  by_cases hok : b = true ∧ ec = 0
  · have e1 := Ho.out
    rw [if_pos hok] at e1
    subst e1
    obtain ⟨rfl, rfl⟩ := hok
    clear Ho
    go_wp2_with fail
    obtain ⟨W4, hW4⟩ : ∃ W4, (put7 w2 w.heap.size (.string ⟨#[112]⟩) (.int .i64 n) (.int .i64 r.site) (.int .i64 r.seq) (.slice a r.dep.length cap) (.string r.key) (.string r.val)).alloc (.cells #[.int .i64 r.site, .int .i64 r.seq, .slice a r.dep.length cap, .string r.key, .string r.val] 57) = W4 := ⟨_, rfl⟩
    obtain ⟨e2, hB4, hoth⟩ := HT.out (.string ⟨#[112]⟩) (.int .i64 n) (.int .i64 r.site) (.int .i64 r.seq) (.slice a r.dep.length cap) (.string r.key) (.string r.val) _ hW4
    unfold put7 put5 at hW4
    rw [hW4]
    clear hW4 k0 k1 k2 k3 k4 k5 k6 f0 f1 f2 f3 f4 f5 f6
    obtain ⟨k0, k1, k2, k3, k4, k5, k6, -, -, -, -, -, -, -⟩ := cells7 e2
    refine bodyPost_ret (v := .tuple #[.agg #[.string ⟨#[112]⟩, .int .i64 n, .int .i64 r.site, .int .i64 r.seq, .slice a r.dep.length cap, .string r.key, .string r.val], .bool true]) (by simp [results, Tryz.f65, go_sem, k0, k1, k2, k3, k4, k5, k6]) rfl ⟨_, rfl, ⟨_, _, _, _, _, _, _, _, _, rfl⟩, fun e h => ?_, hB4⟩
    cases h
    exact ⟨_, rfl, ownsRow_of_heap O2.out fun k hk => hoth k (O2.out.lt k hk).2 fun e => row_not O2.out X2.out (by decide) (by rw [← e]; exact hk.symm)⟩
  · have e1 := Ho.out
    rw [if_neg hok] at e1
    subst e1
    clear Ho
    cases b with
    | false =>
      clear hok
      go_wp2_with fail
      obtain ⟨W4, hW4⟩ : ∃ W4, (put7 w2 w.heap.size (.string ⟨#[]⟩) (.int .i64 0) (.int .i64 0) (.int .i64 0) (.slice none 0 0) (.string ⟨#[]⟩) (.string ⟨#[]⟩)).alloc (.cells #[.int .i64 r.site, .int .i64 r.seq, .slice a r.dep.length cap, .string r.key, .string r.val] 57) = W4 := ⟨_, rfl⟩
      obtain ⟨e2, hB4, hoth⟩ := HT.out (.string ⟨#[]⟩) (.int .i64 0) (.int .i64 0) (.int .i64 0) (.slice none 0 0) (.string ⟨#[]⟩) (.string ⟨#[]⟩) _ hW4
      unfold put7 put5 at hW4
      rw [hW4]
      clear hW4 k0 k1 k2 k3 k4 k5 k6 f0 f1 f2 f3 f4 f5 f6
      obtain ⟨k0, k1, k2, k3, k4, k5, k6, -, -, -, -, -, -, -⟩ := cells7 e2
      exact bodyPost_ret (v := .tuple #[.agg #[.string ⟨#[]⟩, .int .i64 0, .int .i64 0, .int .i64 0, .slice none 0 0, .string ⟨#[]⟩, .string ⟨#[]⟩], .bool false]) (by simp [results, Tryz.f65, go_sem, k0, k1, k2, k3, k4, k5, k6]) rfl ⟨_, rfl, ⟨_, _, _, _, _, _, _, _, _, rfl⟩, fun e h => (by cases h), hB4⟩
    | true =>
      have hec : (ec != 0) = true := by simpa using hok
      have hec' : ¬ ec = 0 := by simpa using hok
      clear hok
      go_wp2_with fail
      obtain ⟨W4, hW4⟩ : ∃ W4, (put7 w2 w.heap.size (.string ⟨#[]⟩) (.int .i64 0) (.int .i64 0) (.int .i64 0) (.slice none 0 0) (.string ⟨#[]⟩) (.string ⟨#[]⟩)).alloc (.cells #[.int .i64 r.site, .int .i64 r.seq, .slice a r.dep.length cap, .string r.key, .string r.val] 57) = W4 := ⟨_, rfl⟩
      obtain ⟨e2, hB4, hoth⟩ := HT.out (.string ⟨#[]⟩) (.int .i64 0) (.int .i64 0) (.int .i64 0) (.slice none 0 0) (.string ⟨#[]⟩) (.string ⟨#[]⟩) _ hW4
      unfold put7 put5 at hW4
      rw [hW4]
      clear hW4 k0 k1 k2 k3 k4 k5 k6 f0 f1 f2 f3 f4 f5 f6
      obtain ⟨k0, k1, k2, k3, k4, k5, k6, -, -, -, -, -, -, -⟩ := cells7 e2
      exact bodyPost_ret (v := .tuple #[.agg #[.string ⟨#[]⟩, .int .i64 0, .int .i64 0, .int .i64 0, .slice none 0 0, .string ⟨#[]⟩, .string ⟨#[]⟩], .bool false]) (by simp [results, Tryz.f65, go_sem, k0, k1, k2, k3, k4, k5, k6]) rfl ⟨_, rfl, ⟨_, _, _, _, _, _, _, _, _, rfl⟩, fun e h => (by cases h), hB4⟩

theorem str_is (l : List UInt8) (c : UInt8) (h : l = [c]) : (l == [c]) = true := by simp [h]
theorem str_isnt (l : List UInt8) (c : UInt8) (h : ¬ l = [c]) : (l == [c]) = false := by simpa using h

set_option maxHeartbeats 4000000 in
set_option maxRecDepth 100000 in
theorem segParse_calls (l : List UInt8) (w : World) (hs : l.length ≤ 1099511627776) :
    Calls Tryz.prog 38 #[.string ⟨l.toArray⟩] w (GivesE w (parseE l)) := by
  have u1 := hide (fun w => cut_calls l 32 w hs)
  have m1 := cutL_length l 32
  obtain ⟨o, ho⟩ : ∃ o, parseE l = o := ⟨_, rfl⟩
  rw [ho]
  rw [parseE_eq] at ho
  generalize cutL l 32 = c at *
  obtain ⟨sign, rest, b0⟩ := c
  dsimp only at *
  have HB := box_below w (.cells #[.string ⟨#[]⟩, .int .i64 0, .int .i64 0, .int .i64 0, .slice none 0 0, .string ⟨#[]⟩, .string ⟨#[]⟩] 84)
  obtain ⟨W1, hW1⟩ : ∃ W1, w.alloc (.cells #[.string ⟨#[]⟩, .int .i64 0, .int .i64 0, .int .i64 0, .slice none 0 0, .string ⟨#[]⟩, .string ⟨#[]⟩] 84) = W1 := ⟨_, rfl⟩
  have x0 : W1.heap[w.heap.size]? = some (.cells #[.string ⟨#[]⟩, .int .i64 0, .int .i64 0, .int .i64 0, .slice none 0 0, .string ⟨#[]⟩, .string ⟨#[]⟩] 84 (0, 0)) := by rw [← hW1]; exact World.alloc_heap_new w _
  rw [hW1] at HB
  have HW := hide hW1
  have X0 := hide x0
  clear hW1 x0
  have Ho := hide ho
  clear ho
  have e0 := Ho.out
  clear Ho
  by_cases hp : sign = [112]
  · rw [if_pos hp] at e0
    have s1 := str_is sign 112 hp
    have u2 := hide (fun w => parsePut_calls rest w (by omega))
    rw [e0] at u2
    clear hp e0
    go_enter Tryz.func38, Tryz.ntmps38
    go_wp2_with (first | (go_at_call 64; rw [HW.out]; refine (u1.out _).mono ?_; rintro e w' ⟨rfl, nq, hw'⟩; subst hw'))
    refine (u2.out _).mono ?_
    rintro e w2 ⟨v, rfl, ⟨pc, pn, ps, pq, pa, pm, pcap, pk, pz, rfl⟩, hE, hB2⟩
    have B2 : Below w.heap.size w w2 := HB.trans (((below_draws nq).trans hB2).mono HB.size)
    have z2 := keepB (show (W1.drewN nq).heap[w.heap.size]? = _ from X0.out) hB2
    obtain ⟨k0, k1, k2, k3, k4, k5, k6, f0, f1, f2, f3, f4, f5, f6⟩ := cells7 z2
    have Z2 := hide z2
    have HE := hide hE
    clear z2 hE
    go_wp2_with fail
    obtain ⟨W4, hW4⟩ : ∃ W4, put7 w2 w.heap.size (.string pc) (.int .i64 pn) (.int .i64 ps) (.int .i64 pq) (.slice pa pm pcap) (.string pk) (.string pz) = W4 := ⟨_, rfl⟩
    have e4 := put7_heap Z2.out (.string pc) (.int .i64 pn) (.int .i64 ps) (.int .i64 pq) (.slice pa pm pcap) (.string pk) (.string pz)
    have B4 := put7_below B2 (Nat.le_refl _) (.string pc) (.int .i64 pn) (.int .i64 ps) (.int .i64 pq) (.slice pa pm pcap) (.string pk) (.string pz)
    have hoth : ∀ k, k ≠ w.heap.size → W4.heap[k]? = w2.heap[k]? := fun k hk => by rw [← hW4]; exact put7_other k hk _ _ _ _ _ _ _
    rw [hW4] at e4 B4
    unfold put7 put5 at hW4
    rw [hW4]
    clear hW4 k0 k1 k2 k3 k4 k5 k6 f0 f1 f2 f3 f4 f5 f6
    obtain ⟨k0, k1, k2, k3, k4, k5, k6, -, -, -, -, -, -, -⟩ := cells7 e4
    refine bodyPost_ret (v := .tuple #[.agg #[.string pc, .int .i64 pn, .int .i64 ps, .int .i64 pq, .slice pa pm pcap, .string pk, .string pz], .bool _]) (by simp [results, Tryz.f38, go_sem, k0, k1, k2, k3, k4, k5, k6]) rfl ⟨_, rfl, ⟨_, _, _, _, _, _, _, _, _, rfl⟩, fun e h => ?_, B4⟩
    obtain ⟨vd, hv, hr⟩ := HE.out e h
    exact ⟨vd, hv, ownsRow_low (ownsRow_of_heap hr fun k hk => hoth k fun e => row_not hr Z2.out (by decide) (by rw [← e]; exact hk.symm)) (by have := HB.size; simpa using this)⟩
  rw [if_neg hp] at e0
  have s1 := str_isnt sign 112 hp
  clear hp
  by_cases hp : sign = [115]
  · rw [if_pos hp] at e0
    have s2 := str_is sign 115 hp
    have u2 := hide (fun w => parseNumber_calls 115 rest w (by omega))
    rw [e0] at u2
    rw [show (⟨#[115]⟩ : ByteArray) = ⟨sign.toArray⟩ by rw [hp]] at u2
    clear hp e0
    go_enter Tryz.func38, Tryz.ntmps38
    go_wp2_with (first | (go_at_call 64; rw [HW.out]; refine (u1.out _).mono ?_; rintro e w' ⟨rfl, nq, hw'⟩; subst hw'))
    refine (u2.out _).mono ?_
    rintro e w2 ⟨v, rfl, ⟨pc, pn, ps, pq, pa, pm, pcap, pk, pz, rfl⟩, hE, hB2⟩
    have B2 : Below w.heap.size w w2 := HB.trans (((below_draws nq).trans hB2).mono HB.size)
    have z2 := keepB (show (W1.drewN nq).heap[w.heap.size]? = _ from X0.out) hB2
    obtain ⟨k0, k1, k2, k3, k4, k5, k6, f0, f1, f2, f3, f4, f5, f6⟩ := cells7 z2
    have Z2 := hide z2
    have HE := hide hE
    clear z2 hE
    go_wp2_with fail
    obtain ⟨W4, hW4⟩ : ∃ W4, put7 w2 w.heap.size (.string pc) (.int .i64 pn) (.int .i64 ps) (.int .i64 pq) (.slice pa pm pcap) (.string pk) (.string pz) = W4 := ⟨_, rfl⟩
    have e4 := put7_heap Z2.out (.string pc) (.int .i64 pn) (.int .i64 ps) (.int .i64 pq) (.slice pa pm pcap) (.string pk) (.string pz)
    have B4 := put7_below B2 (Nat.le_refl _) (.string pc) (.int .i64 pn) (.int .i64 ps) (.int .i64 pq) (.slice pa pm pcap) (.string pk) (.string pz)
    have hoth : ∀ k, k ≠ w.heap.size → W4.heap[k]? = w2.heap[k]? := fun k hk => by rw [← hW4]; exact put7_other k hk _ _ _ _ _ _ _
    rw [hW4] at e4 B4
    unfold put7 put5 at hW4
    rw [hW4]
    clear hW4 k0 k1 k2 k3 k4 k5 k6 f0 f1 f2 f3 f4 f5 f6
    obtain ⟨k0, k1, k2, k3, k4, k5, k6, -, -, -, -, -, -, -⟩ := cells7 e4
    refine bodyPost_ret (v := .tuple #[.agg #[.string pc, .int .i64 pn, .int .i64 ps, .int .i64 pq, .slice pa pm pcap, .string pk, .string pz], .bool _]) (by simp [results, Tryz.f38, go_sem, k0, k1, k2, k3, k4, k5, k6]) rfl ⟨_, rfl, ⟨_, _, _, _, _, _, _, _, _, rfl⟩, fun e h => ?_, B4⟩
    obtain ⟨vd, hv, hr⟩ := HE.out e h
    exact ⟨vd, hv, ownsRow_low (ownsRow_of_heap hr fun k hk => hoth k fun e => row_not hr Z2.out (by decide) (by rw [← e]; exact hk.symm)) (by have := HB.size; simpa using this)⟩
  rw [if_neg hp] at e0
  have s115 := str_isnt sign 115 hp
  clear hp
  by_cases hp : sign = [99]
  · rw [if_pos hp] at e0
    have s2 := str_is sign 99 hp
    have u2 := hide (fun w => parseNumber_calls 99 rest w (by omega))
    rw [e0] at u2
    rw [show (⟨#[99]⟩ : ByteArray) = ⟨sign.toArray⟩ by rw [hp]] at u2
    clear hp e0
    go_enter Tryz.func38, Tryz.ntmps38
    go_wp2_with (first | (go_at_call 64; rw [HW.out]; refine (u1.out _).mono ?_; rintro e w' ⟨rfl, nq, hw'⟩; subst hw'))
    refine (u2.out _).mono ?_
    rintro e w2 ⟨v, rfl, ⟨pc, pn, ps, pq, pa, pm, pcap, pk, pz, rfl⟩, hE, hB2⟩
    have B2 : Below w.heap.size w w2 := HB.trans (((below_draws nq).trans hB2).mono HB.size)
    have z2 := keepB (show (W1.drewN nq).heap[w.heap.size]? = _ from X0.out) hB2
    obtain ⟨k0, k1, k2, k3, k4, k5, k6, f0, f1, f2, f3, f4, f5, f6⟩ := cells7 z2
    have Z2 := hide z2
    have HE := hide hE
    clear z2 hE
    go_wp2_with fail
    obtain ⟨W4, hW4⟩ : ∃ W4, put7 w2 w.heap.size (.string pc) (.int .i64 pn) (.int .i64 ps) (.int .i64 pq) (.slice pa pm pcap) (.string pk) (.string pz) = W4 := ⟨_, rfl⟩
    have e4 := put7_heap Z2.out (.string pc) (.int .i64 pn) (.int .i64 ps) (.int .i64 pq) (.slice pa pm pcap) (.string pk) (.string pz)
    have B4 := put7_below B2 (Nat.le_refl _) (.string pc) (.int .i64 pn) (.int .i64 ps) (.int .i64 pq) (.slice pa pm pcap) (.string pk) (.string pz)
    have hoth : ∀ k, k ≠ w.heap.size → W4.heap[k]? = w2.heap[k]? := fun k hk => by rw [← hW4]; exact put7_other k hk _ _ _ _ _ _ _
    rw [hW4] at e4 B4
    unfold put7 put5 at hW4
    rw [hW4]
    clear hW4 k0 k1 k2 k3 k4 k5 k6 f0 f1 f2 f3 f4 f5 f6
    obtain ⟨k0, k1, k2, k3, k4, k5, k6, -, -, -, -, -, -, -⟩ := cells7 e4
    refine bodyPost_ret (v := .tuple #[.agg #[.string pc, .int .i64 pn, .int .i64 ps, .int .i64 pq, .slice pa pm pcap, .string pk, .string pz], .bool _]) (by simp [results, Tryz.f38, go_sem, k0, k1, k2, k3, k4, k5, k6]) rfl ⟨_, rfl, ⟨_, _, _, _, _, _, _, _, _, rfl⟩, fun e h => ?_, B4⟩
    obtain ⟨vd, hv, hr⟩ := HE.out e h
    exact ⟨vd, hv, ownsRow_low (ownsRow_of_heap hr fun k hk => hoth k fun e => row_not hr Z2.out (by decide) (by rw [← e]; exact hk.symm)) (by have := HB.size; simpa using this)⟩
  rw [if_neg hp] at e0
  have s99 := str_isnt sign 99 hp
  clear hp
  by_cases hp : sign = [116]
  · rw [if_pos hp] at e0
    have s2 := str_is sign 116 hp
    have u2 := hide (fun w => parseNumber_calls 116 rest w (by omega))
    rw [e0] at u2
    rw [show (⟨#[116]⟩ : ByteArray) = ⟨sign.toArray⟩ by rw [hp]] at u2
    clear hp e0
    go_enter Tryz.func38, Tryz.ntmps38
    go_wp2_with (first | (go_at_call 64; rw [HW.out]; refine (u1.out _).mono ?_; rintro e w' ⟨rfl, nq, hw'⟩; subst hw'))
    refine (u2.out _).mono ?_
    rintro e w2 ⟨v, rfl, ⟨pc, pn, ps, pq, pa, pm, pcap, pk, pz, rfl⟩, hE, hB2⟩
    have B2 : Below w.heap.size w w2 := HB.trans (((below_draws nq).trans hB2).mono HB.size)
    have z2 := keepB (show (W1.drewN nq).heap[w.heap.size]? = _ from X0.out) hB2
    obtain ⟨k0, k1, k2, k3, k4, k5, k6, f0, f1, f2, f3, f4, f5, f6⟩ := cells7 z2
    have Z2 := hide z2
    have HE := hide hE
    clear z2 hE
    go_wp2_with fail
    obtain ⟨W4, hW4⟩ : ∃ W4, put7 w2 w.heap.size (.string pc) (.int .i64 pn) (.int .i64 ps) (.int .i64 pq) (.slice pa pm pcap) (.string pk) (.string pz) = W4 := ⟨_, rfl⟩
    have e4 := put7_heap Z2.out (.string pc) (.int .i64 pn) (.int .i64 ps) (.int .i64 pq) (.slice pa pm pcap) (.string pk) (.string pz)
    have B4 := put7_below B2 (Nat.le_refl _) (.string pc) (.int .i64 pn) (.int .i64 ps) (.int .i64 pq) (.slice pa pm pcap) (.string pk) (.string pz)
    have hoth : ∀ k, k ≠ w.heap.size → W4.heap[k]? = w2.heap[k]? := fun k hk => by rw [← hW4]; exact put7_other k hk _ _ _ _ _ _ _
    rw [hW4] at e4 B4
    unfold put7 put5 at hW4
    rw [hW4]
    clear hW4 k0 k1 k2 k3 k4 k5 k6 f0 f1 f2 f3 f4 f5 f6
    obtain ⟨k0, k1, k2, k3, k4, k5, k6, -, -, -, -, -, -, -⟩ := cells7 e4
    refine bodyPost_ret (v := .tuple #[.agg #[.string pc, .int .i64 pn, .int .i64 ps, .int .i64 pq, .slice pa pm pcap, .string pk, .string pz], .bool _]) (by simp [results, Tryz.f38, go_sem, k0, k1, k2, k3, k4, k5, k6]) rfl ⟨_, rfl, ⟨_, _, _, _, _, _, _, _, _, rfl⟩, fun e h => ?_, B4⟩
    obtain ⟨vd, hv, hr⟩ := HE.out e h
    exact ⟨vd, hv, ownsRow_low (ownsRow_of_heap hr fun k hk => hoth k fun e => row_not hr Z2.out (by decide) (by rw [← e]; exact hk.symm)) (by have := HB.size; simpa using this)⟩
  rw [if_neg hp] at e0
  have s116 := str_isnt sign 116 hp
  clear hp
  subst e0
  go_enter Tryz.func38, Tryz.ntmps38
  have z2 := X0.out
  obtain ⟨k0, k1, k2, k3, k4, k5, k6, f0, f1, f2, f3, f4, f5, f6⟩ := cells7 z2
  clear z2
  go_wp2_with (first | (go_at_call 64; rw [HW.out]; refine (u1.out _).mono ?_; rintro e w' ⟨rfl, nq, hw'⟩; subst hw'))
  obtain ⟨W4, hW4⟩ : ∃ W4, put7 (W1.drewN nq) w.heap.size (.string ⟨#[]⟩) (.int .i64 0) (.int .i64 0) (.int .i64 0) (.slice none 0 0) (.string ⟨#[]⟩) (.string ⟨#[]⟩) = W4 := ⟨_, rfl⟩
  have e4 := put7_heap (show (W1.drewN nq).heap[w.heap.size]? = _ from X0.out) (.string ⟨#[]⟩) (.int .i64 0) (.int .i64 0) (.int .i64 0) (.slice none 0 0) (.string ⟨#[]⟩) (.string ⟨#[]⟩)
  have B4 := put7_below (HB.trans (below_draws nq)) (Nat.le_refl _) (.string ⟨#[]⟩) (.int .i64 0) (.int .i64 0) (.int .i64 0) (.slice none 0 0) (.string ⟨#[]⟩) (.string ⟨#[]⟩)
  rw [hW4] at e4 B4
  unfold put7 put5 at hW4
  rw [hW4]
  clear hW4 k0 k1 k2 k3 k4 k5 k6 f0 f1 f2 f3 f4 f5 f6
  obtain ⟨k0, k1, k2, k3, k4, k5, k6, -, -, -, -, -, -, -⟩ := cells7 e4
  exact bodyPost_ret (v := .tuple #[.agg #[.string ⟨#[]⟩, .int .i64 0, .int .i64 0, .int .i64 0, .slice none 0 0, .string ⟨#[]⟩, .string ⟨#[]⟩], .bool false]) (by simp [results, Tryz.f38, go_sem, k0, k1, k2, k3, k4, k5, k6]) rfl ⟨_, rfl, ⟨_, _, _, _, _, _, _, _, _, rfl⟩, fun e h => (by cases h), B4⟩

end Go.Proofs.YtncmocmmkbmmjaaGreatDoor

/- Segments in memory: find, has, may, end. Own work; no statement. -/
set_option linter.unusedSimpArgs false
set_option linter.unusedVariables false
namespace Go.Proofs.YtncmocmmkbmmjaaGreatDoor
open Go.RowKit Go.Shelf Go.Sort

/-- A record at its position, with the place of its line. -/
structure SlotD where
  pos : Int
  line : Nat
  r : RecD

/-- What a segment has. -/
structure SegD where
  D : DiskD
  sealed : Int
  trim : Int
  slots : List SlotD

def poss (S : SegD) : List Int := S.slots.map (·.pos)

def GoodR (r : RecD) : Prop := checkR r 8 = 0

structure SegD.ok (S : SegD) : Prop where
  rising : S.slots.Pairwise fun a b => a.pos < b.pos
  each : ∀ x ∈ S.slots, 0 ≤ x.pos ∧ x.pos ≤ 2147483647 ∧ S.trim ≤ x.pos ∧ x.line ≤ 1048576 ∧ GoodR x.r
  sealed0 : 0 ≤ S.sealed
  sealed1 : S.sealed ≤ 2147483647
  trim0 : 0 ≤ S.trim
  trim1 : S.trim ≤ 2147483647
  few : S.slots.length ≤ S.D.lines.length

/-- At block q there lies a slot, its record's numbers in a row of their own. -/
def SlotAt (w : World) (B q : Nat) (x : SlotD) : Prop :=
  ∃ vd, B ≤ q ∧ w.heap[q]? = some (.cells #[.int .i64 x.pos, .int .i64 (x.line : Int), .int .i64 x.r.site, .int .i64 x.r.seq, vd, .string x.r.key, .string x.r.val] 109 (0, 0)) ∧ w.ownsRow B 3 1 vd x.r.dep.length (x.r.dep.map (Value.int .i64))

/-- The blocks of a segment: its own, its disk's, its row of slots; from c on its slots lie, and their numbers. -/
structure SegM where
  p : Nat
  dp : Nat
  dg : Option Nat
  sg : Option Nat
  c : Nat

def SegM.on (m : SegM) (k : Nat) : Prop := k = m.p ∨ m.sg = some k ∨ onDisk m.dp m.dg k

/-- At block m.p there lies a segment. -/
structure IsSeg (w : World) (B : Nat) (m : SegM) (S : SegD) : Prop where
  ok : S.ok
  low : B ≤ m.p
  cl : m.c ≤ w.heap.size
  disk : IsDisk w B m.dp m.dg S.D
  val : ∃ (v : Value) (qs : List Nat), v.ownBlock = m.sg ∧ qs.length = S.slots.length ∧ w.heap[m.p]? = some (.cells #[ptrV m.dp, .int .i64 S.sealed, .int .i64 S.trim, v] 82 (0, 0)) ∧ w.ownsRow B 106 1 v qs.length (qs.map ptrV) ∧ ∀ i (h : i < qs.length) (h' : i < S.slots.length), SlotAt w m.c qs[i] S.slots[i]

theorem SlotAt.off {w : World} {B q : Nat} {x : SlotD} (h : SlotAt w B q x) {k : Nat} {c : Array Value} {t : TypeId} {f : Nat × Nat} (hk : w.heap[k]? = some (.cells c t f)) (h1 : t ≠ 109) : k ≠ q := fun e => by
  obtain ⟨vd, -, hq, -⟩ := h
  rw [e, hq] at hk
  simp only [Option.some.injEq, Obj.cells.injEq] at hk
  exact h1 hk.2.1.symm

/-- A slot is as it was where no block of its types has turned. -/
theorem SlotAt.keep {w w' : World} {B q : Nat} {x : SlotD} (h : SlotAt w B q x) (hk : ∀ (k : Nat) (c : Array Value) (t : TypeId), w.heap[k]? = some (.cells c t (0, 0)) → (t = 109 ∨ t = 3) → w'.heap[k]? = w.heap[k]?) : SlotAt w' B q x := by
  obtain ⟨vd, hB, hq, hr⟩ := h
  refine ⟨vd, hB, (hk q _ _ hq (.inl rfl)).trans hq, ownsRow_of_heap hr fun k e => ?_⟩
  rcases hr.2 with ⟨rfl, _⟩ | ⟨g, cap, cur, rfl, _, hg, _⟩
  · cases e
  · obtain rfl : g = k := by simpa [Value.ownBlock] using e
    exact hk g _ _ hg (.inr rfl)
theorem SlotAt.below {w w' : World} {B q : Nat} {x : SlotD} (h : SlotAt w B q x) (hb : Below w.heap.size w w') : SlotAt w' B q x :=
  h.keep fun k _ _ hk _ => hb.block k (ltAt hk)

theorem IsSeg.lt {w : World} {B : Nat} {m : SegM} {S : SegD} (h : IsSeg w B m S) : m.p < w.heap.size := by
  obtain ⟨v, qs, _, _, hp, _⟩ := h.val
  exact ltAt hp

/-- What type a block of a segment's has. -/
theorem IsSeg.types {w : World} {B : Nat} {m : SegM} {S : SegD} (h : IsSeg w B m S) {k : Nat} (hk : m.on k) : B ≤ k ∧ k < w.heap.size ∧ ∃ c t, w.heap[k]? = some (.cells c t (0, 0)) ∧ t ≠ 109 ∧ t ≠ 3 := by
  obtain ⟨v, qs, hv, hl, hp, hr, hs⟩ := h.val
  rcases hk with rfl | hk | hk
  · exact ⟨h.low, ltAt hp, _, _, hp, by decide, by decide⟩
  · rcases hr.2 with ⟨rfl, _⟩ | ⟨g, cap, cur, rfl, hb, hg, _⟩
    · rw [← hv] at hk; cases hk
    · obtain rfl : g = k := by rw [← hv] at hk; simpa [Value.ownBlock] using hk
      exact ⟨hb, ltAt hg, _, _, hg, by decide, by decide⟩
  · have := h.disk.on hk
    refine ⟨this.1, this.2, ?_⟩
    obtain ⟨v', hv', hp', hr'⟩ := h.disk.val
    rcases hk with rfl | hk
    · exact ⟨_, _, hp', by decide, by decide⟩
    · rcases hr'.2 with ⟨rfl, _⟩ | ⟨g, cap, cur, rfl, hb, hg, _⟩
      · rw [← hv'] at hk; cases hk
      · obtain rfl : g = k := by rw [← hv'] at hk; simpa [Value.ownBlock] using hk
        exact ⟨_, _, hg, by decide, by decide⟩

/-- A slot of any segment is as it was where only this segment's blocks have turned. -/
theorem SlotAt.touch {w w' : World} {B B' q : Nat} {x : SlotD} {m : SegM} {S : SegD} (h : SlotAt w B q x) (hs : IsSeg w B' m S) (t : Touch m.on w w') : SlotAt w' B q x :=
  h.keep fun k c ty hk hty => t.block k (ltAt hk) fun e => by
    obtain ⟨-, -, c', t', h1, h2, h3⟩ := hs.types e
    rw [hk] at h1
    simp only [Option.some.injEq, Obj.cells.injEq] at h1
    rcases hty with e | e
    · exact h2 (h1.2.1.symm.trans e)
    · exact h3 (h1.2.1.symm.trans e)

theorem IsSeg.keep {w w' : World} {B : Nat} {m : SegM} {S : SegD} (h : IsSeg w B m S) (hb : Below w.heap.size w w') : IsSeg w' B m S := by
  obtain ⟨v, qs, hv, hl, hp, hr, hs⟩ := h.val
  exact ⟨h.ok, h.low, Nat.le_trans h.cl hb.size, h.disk.new hb, v, qs, hv, hl, keepB hp hb, own_below hr hb, fun i h1 h2 => (hs i h1 h2).below hb⟩
theorem IsSeg.drews {w : World} {B : Nat} {m : SegM} {S : SegD} (h : IsSeg w B m S) (n : Nat) : IsSeg (w.drewN n) B m S := h.keep (drewsB w n)
theorem IsSeg.lower {w : World} {B B' : Nat} {m : SegM} {S : SegD} (h : IsSeg w B m S) (hB : B' ≤ B) : IsSeg w B' m S := by
  obtain ⟨v, qs, hv, hl, hp, hr, hs⟩ := h.val
  exact ⟨h.ok, Nat.le_trans hB h.low, h.cl, h.disk.lower hB, v, qs, hv, hl, hp, ownsRow_low hr hB, hs⟩
/-- A segment's own changes lie from B on. -/
theorem IsSeg.below {w w' : World} {B : Nat} {m : SegM} {S : SegD} (h : IsSeg w B m S) (hB : B ≤ w.heap.size) (t : Touch m.on w w') : Below B w w' := t.below hB fun _ _ e => (h.types e).1

theorem cells4 {W : World} {b : Nat} {x0 x1 x2 x3 : Value} {t : TypeId} (h : W.heap[b]? = some (.cells #[x0, x1, x2, x3] t (0, 0))) :
    W.cell? ⟨b, 0, none⟩ = some x0 ∧ W.cell? ⟨b, 1, none⟩ = some x1 ∧ W.cell? ⟨b, 2, none⟩ = some x2 ∧ W.cell? ⟨b, 3, none⟩ = some x3 ∧
    W.frozen? ⟨b, 0, none⟩ = false ∧ W.frozen? ⟨b, 1, none⟩ = false ∧ W.frozen? ⟨b, 2, none⟩ = false ∧ W.frozen? ⟨b, 3, none⟩ = false :=
  ⟨by simpa using cellsAt h 0, by simpa using cellsAt h 1, by simpa using cellsAt h 2, by simpa using cellsAt h 3, frozenAt h _, frozenAt h _, frozenAt h _, frozenAt h _⟩

theorem poss_length (S : SegD) : (poss S).length = S.slots.length := by simp [poss]
theorem poss_get (S : SegD) (i : Nat) (h : i < S.slots.length) : (poss S).getD i 0 = S.slots[i].pos := by simp [poss, h]
theorem poss_rising {S : SegD} (h : S.ok) : ∀ a b, a ≤ b → b < (poss S).length → (poss S).getD a 0 ≤ (poss S).getD b 0 := by
  intro a b hab hb
  rw [poss_length] at hb
  rw [poss_get S a (by omega), poss_get S b hb]
  rcases Nat.lt_or_eq_of_le hab with h1 | h1
  · have := List.pairwise_iff_getElem.1 h.rising a b (by omega) hb h1
    omega
  · subst h1
    exact Int.le_refl _
theorem belowN_le (l : List Int) (x : Int) : belowN l x ≤ l.length := List.countP_le_length

set_option maxRecDepth 100000 in
set_option maxHeartbeats 1000000 in
theorem find_calls (B : Nat) (m : SegM) (S : SegD) (pos : Int) (w : World) (hd : IsSeg w B m S) :
    Calls Tryz.prog 61 #[.pointer (some ⟨m.p, 0, none⟩), .int .i64 pos] w fun e w' => e = .returned (.tuple #[.int .i64 (belowN (poss S) pos : Nat), .bool (isAt (poss S) pos)]) ∧ ∃ n, w' = w.drewN n := by
  obtain ⟨v, qs, hv, hl, hp, hr, hs⟩ := hd.val
  have hlen := hd.disk.len
  have hfew := hd.ok.few
  have C := hide (bsearch_calls B v qs (poss S) pos w hr (by omega) (by rw [poss_length, hl]) (fun i hi => by
    rw [poss_get S i (by omega), show qs.getD i 0 = qs[i] by simp [hi]]
    obtain ⟨vd, -, hq, -⟩ := hs i hi (by omega)
    exact (cells7 hq).1) (poss_rising hd.ok))
  obtain ⟨c0, c1, c2, c3, -, -, -, -⟩ := cells4 hp
  obtain ⟨a, cap, rfl⟩ := ownsRow_slice hr
  generalize belowN (poss S) pos = i at *
  generalize isAt (poss S) pos = b at *
  clear hd hr hs hp hv hl
  unfold ptrV at c0
  go_enter Tryz.func61, Tryz.ntmps61
  go_wp2_with fail
  refine C.out.mono ?_
  rintro e w' ⟨rfl, n, rfl⟩
  go_wp2_with fail
  go_ret2
  exact ⟨rfl, n, rfl⟩

set_option maxHeartbeats 1000000 in
theorem has_calls (B : Nat) (m : SegM) (S : SegD) (pos : Int) (w : World) (hd : IsSeg w B m S) :
    Calls Tryz.prog 51 #[.pointer (some ⟨m.p, 0, none⟩), .int .i64 pos] w fun e w' => e = .returned (.bool (isAt (poss S) pos)) ∧ ∃ n, w' = w.drewN n := by
  have C := hide (find_calls B m S pos w hd)
  clear hd
  go_enter Tryz.func51, Tryz.ntmps51
  go_wp2_with fail
  refine C.out.mono ?_
  rintro e w' ⟨rfl, n, rfl⟩
  go_wp2_with fail
  go_ret
  exact ⟨rfl, n, rfl⟩

/-- May an entry stand behind those that are there? -/
def mayS (S : SegD) (e : EntD) : Bool :=
  if e.sign = 112 then decide (S.trim ≤ e.n) && !isAt (poss S) e.n else if e.sign = 115 then decide (S.sealed < e.n) else if e.sign = 116 then decide (S.trim < e.n) else true

theorem one_is (c d : UInt8) (h : c = d) : ((⟨#[c]⟩ : ByteArray).toList == [d]) = true := by rw [Lib.toList_data]; simp [h]
theorem one_isnt (c d : UInt8) (h : ¬ c = d) : ((⟨#[c]⟩ : ByteArray).toList == [d]) = false := by rw [Lib.toList_data]; simp [h]

set_option maxHeartbeats 4000000 in
set_option maxRecDepth 100000 in
theorem may_calls (B B' : Nat) (m : SegM) (S : SegD) (v : Value) (e : EntD) (w : World) (hd : IsSeg w B m S) (hv : IsEnt w B' v e) :
    Calls Tryz.prog 39 #[.pointer (some ⟨m.p, 0, none⟩), v] w fun x w' => x = .returned (.bool (mayS S e)) ∧ Below w.heap.size w w' := by
  obtain ⟨vd, rfl, hr⟩ := hv
  obtain ⟨a, cap, rfl⟩ := ownsRow_slice hr
  obtain ⟨sign, n, r⟩ := e
  dsimp only at *
  clear hr
  obtain ⟨o, ho⟩ : ∃ o, mayS S ⟨sign, n, r⟩ = o := ⟨_, rfl⟩
  rw [ho]
  unfold mayS at ho
  dsimp only at ho
  obtain ⟨P, hP⟩ : ∃ P : ByteArray, (⟨#[sign]⟩ : ByteArray) = P := ⟨_, rfl⟩
  have o1 : ∀ d, sign = d → (P.toList == [d]) = true := fun d h => by rw [← hP]; exact one_is sign d h
  have o2 : ∀ d, ¬ sign = d → (P.toList == [d]) = false := fun d h => by rw [← hP]; exact one_isnt sign d h
  rw [hP]
  clear hP
  have HB := box_below w (.cells #[.string P, .int .i64 n, .int .i64 r.site, .int .i64 r.seq, .slice a r.dep.length cap, .string r.key, .string r.val] 84)
  obtain ⟨W1, hW1⟩ : ∃ W1, w.alloc (.cells #[.string P, .int .i64 n, .int .i64 r.site, .int .i64 r.seq, .slice a r.dep.length cap, .string r.key, .string r.val] 84) = W1 := ⟨_, rfl⟩
  have x0 : W1.heap[w.heap.size]? = some (.cells #[.string P, .int .i64 n, .int .i64 r.site, .int .i64 r.seq, .slice a r.dep.length cap, .string r.key, .string r.val] 84 (0, 0)) := by rw [← hW1]; exact World.alloc_heap_new w _
  rw [hW1] at HB
  have hd1 := hd.keep HB
  obtain ⟨vs, qs, -, hl, hp, hr, -⟩ := hd1.val
  obtain ⟨c0, c1, c2, c3, -, -, -, -⟩ := cells4 hp
  obtain ⟨k0, k1, -, -, -, -, -, -, -, -, -, -, -, -⟩ := cells7 x0
  have b1 := hd.ok.sealed0
  have b2 := hd.ok.sealed1
  have b3 := hd.ok.trim0
  have b4 := hd.ok.trim1
  have u1 := hide (fun nq => has_calls B m S n (W1.drewN nq) (hd1.drews nq))
  generalize isAt (poss S) n = q at *
  have HW := hide hW1
  clear hd hd1 hp hr hl x0 hW1 c0 c3
  by_cases h1 : sign = 112
  · rw [if_pos h1] at ho
    have s1 := o1 112 h1
    clear o1 o2 h1
    by_cases ht : S.trim ≤ n
    · rw [decide_eq_true ht, Bool.true_and] at ho
      subst ho
      go_enter Tryz.func39, Tryz.ntmps39
      go_wp2_with fail
      rw [HW.out]
      go_quiet (first | (go_at_call 51; refine Calls.quiet_of (u1.out _)))
      go_wp2_with fail
      go_ret
      exact ⟨by simp_all, HB.trans ((drewsB W1 _).mono HB.size)⟩
    · rw [decide_eq_false ht, Bool.false_and] at ho
      subst ho
      have hdt : decide (S.trim ≤ n) = false := decide_eq_false ht
      go_enter Tryz.func39, Tryz.ntmps39
      go_wp2_with fail
      rw [HW.out]
      go_quiet (first | (go_at_call 51; refine Calls.quiet_of (u1.out _)))
      go_wp2_with fail
      go_ret
      exact ⟨by simp_all, HB.trans ((drewsB W1 _).mono HB.size)⟩
  · rw [if_neg h1] at ho
    have s1 := o2 112 h1
    clear h1
    by_cases h2 : sign = 115
    · rw [if_pos h2] at ho
      have s2 := o1 115 h2
      clear o1 o2 h2
      subst ho
      go_enter Tryz.func39, Tryz.ntmps39
      go_wp2_with fail
      rw [HW.out]
      go_quiet (fail)
      go_wp2_with fail
      go_ret
      exact ⟨by simp_all, HB.trans ((drewsB W1 _).mono HB.size)⟩
    · rw [if_neg h2] at ho
      have s2 := o2 115 h2
      clear h2
      by_cases h3 : sign = 116
      · rw [if_pos h3] at ho
        have s3 := o1 116 h3
        clear o1 o2 h3
        subst ho
        go_enter Tryz.func39, Tryz.ntmps39
        go_wp2_with fail
        rw [HW.out]
        go_quiet (fail)
        go_wp2_with fail
        go_ret
        exact ⟨by simp_all, HB.trans ((drewsB W1 _).mono HB.size)⟩
      · rw [if_neg h3] at ho
        have s3 := o2 116 h3
        clear o1 o2 h3
        subst ho
        go_enter Tryz.func39, Tryz.ntmps39
        go_wp2_with fail
        rw [HW.out]
        go_ret
        exact ⟨rfl, HB⟩

end Go.Proofs.YtncmocmmkbmmjaaGreatDoor

/- Rising numbers; what entries make of a segment: pure laws. Own work; no statement. -/
set_option linter.unusedSimpArgs false
set_option linter.unusedVariables false
namespace Go.Proofs.YtncmocmmkbmmjaaGreatDoor

theorem belowN_none (l : List Int) (x : Int) (h : ∀ y ∈ l, x ≤ y) : belowN l x = 0 := by
  unfold belowN
  rw [List.countP_eq_zero]
  intro y hy
  have := h y hy
  simp; omega

theorem belowN_split : ∀ (l : List Int) (x : Int), l.Pairwise (· < ·) → (∀ y ∈ l.take (belowN l x), y < x) ∧ (∀ y ∈ l.drop (belowN l x), x ≤ y)
  | [], x, _ => by simp [belowN]
  | a :: r, x, h => by
    rw [List.pairwise_cons] at h
    by_cases ha : a < x
    · have e : belowN (a :: r) x = belowN r x + 1 := by unfold belowN; rw [List.countP_cons_of_pos (by simpa using ha)]
      have ih := belowN_split r x h.2
      rw [e, List.take_succ_cons, List.drop_succ_cons]
      refine ⟨fun y hy => ?_, ih.2⟩
      rcases List.mem_cons.1 hy with rfl | hy
      · exact ha
      · exact ih.1 y hy
    · have e : belowN (a :: r) x = 0 := belowN_none _ _ fun y hy => by
        rcases List.mem_cons.1 hy with rfl | hy
        · omega
        · have := h.1 y hy; omega
      rw [e]
      refine ⟨by simp, fun y hy => ?_⟩
      rw [List.drop_zero] at hy
      rcases List.mem_cons.1 hy with rfl | hy
      · omega
      · have := h.1 y hy; omega

theorem isAt_iff (l : List Int) (x : Int) (h : l.Pairwise (· < ·)) : isAt l x = true ↔ x ∈ l := by
  have hs := belowN_split l x h
  unfold isAt
  rw [Bool.and_eq_true, decide_eq_true_eq, decide_eq_true_eq]
  constructor
  · rintro ⟨h1, h2⟩
    rw [List.getD_eq_getElem?_getD, List.getElem?_eq_getElem h1, Option.getD_some] at h2
    rw [← h2]
    exact List.getElem_mem _
  · intro hx
    have h1 : x ∈ l.drop (belowN l x) := by
      rw [← List.take_append_drop (belowN l x) l] at hx
      rcases List.mem_append.1 hx with hx | hx
      · have := hs.1 x hx; omega
      · exact hx
    have hlt : belowN l x < l.length := by
      have := List.length_pos_of_mem h1
      simp at this
      omega
    refine ⟨hlt, ?_⟩
    rw [List.getD_eq_getElem?_getD, List.getElem?_eq_getElem hlt, Option.getD_some]
    have h2 : l.drop (belowN l x) = l[belowN l x] :: l.drop (belowN l x + 1) := List.drop_eq_getElem_cons hlt
    have hge : x ≤ l[belowN l x] := hs.2 _ (h2 ▸ List.mem_cons_self)
    rw [h2] at h1
    rcases List.mem_cons.1 h1 with h3 | h3
    · exact h3.symm
    · have hp : (l.drop (belowN l x)).Pairwise (· < ·) := h.sublist (List.drop_sublist _ _)
      rw [h2, List.pairwise_cons] at hp
      have := hp.1 x h3
      omega

theorem poss_pairwise {S : SegD} (h : S.ok) : (poss S).Pairwise (· < ·) := by
  unfold poss
  rw [List.pairwise_map]
  exact h.rising

theorem slots_split {S : SegD} (h : S.ok) (n : Int) : (∀ x ∈ S.slots.take (belowN (poss S) n), x.pos < n) ∧ (∀ x ∈ S.slots.drop (belowN (poss S) n), n ≤ x.pos) := by
  have hs := belowN_split (poss S) n (poss_pairwise h)
  refine ⟨fun x hx => hs.1 x.pos ?_, fun x hx => hs.2 x.pos ?_⟩
  · unfold poss
    rw [← List.map_take]
    exact List.mem_map_of_mem hx
  · unfold poss
    rw [← List.map_drop]
    exact List.mem_map_of_mem hx

theorem put_ok {S : SegD} (h : S.ok) {n : Int} {place : Nat} {r : RecD} (ht : S.trim ≤ n) (hat : isAt (poss S) n = false) (hn : n ≤ 2147483647) (hp : place ≤ 1048576) (hg : GoodR r) (hf : S.slots.length < S.D.lines.length) :
    SegD.ok { S with slots := insL S.slots (belowN (poss S) n) ⟨n, place, r⟩ } := by
  have hs := slots_split h n
  have hle : belowN (poss S) n ≤ S.slots.length := by have := belowN_le (poss S) n; rw [poss_length] at this; exact this
  have hne : ∀ x ∈ S.slots, x.pos ≠ n := fun x hx e => by
    have : isAt (poss S) n = true := (isAt_iff _ _ (poss_pairwise h)).2 (by rw [← e]; exact List.mem_map_of_mem hx)
    rw [hat] at this
    cases this
  have h0 := h.trim0
  refine ⟨?_, ?_, h.sealed0, h.sealed1, h.trim0, h.trim1, by dsimp only; rw [insL_length _ _ _ hle]; omega⟩
  · dsimp only
    unfold insL
    rw [List.pairwise_append]
    refine ⟨h.rising.sublist (List.take_sublist _ _), ?_, ?_⟩
    · rw [List.pairwise_cons]
      refine ⟨fun x hx => ?_, h.rising.sublist (List.drop_sublist _ _)⟩
      have h1 := hs.2 x hx
      have h2 := hne x (List.mem_of_mem_drop hx)
      dsimp only
      omega
    · intro x hx y hy
      have h1 := hs.1 x hx
      rcases List.mem_cons.1 hy with rfl | hy
      · exact h1
      · have := hs.2 y hy; omega
  · intro x hx
    dsimp only at hx ⊢
    unfold insL at hx
    rcases List.mem_append.1 hx with hx | hx
    · exact h.each x (List.mem_of_mem_take hx)
    · rcases List.mem_cons.1 hx with rfl | hx
      · exact ⟨by dsimp only; omega, hn, ht, hp, hg⟩
      · exact h.each x (List.mem_of_mem_drop hx)

theorem take_ok {S : SegD} (h : S.ok) (k : Nat) : SegD.ok { S with slots := S.slots.take k } :=
  ⟨h.rising.sublist (List.take_sublist _ _), fun x hx => h.each x (List.mem_of_mem_take hx), h.sealed0, h.sealed1, h.trim0, h.trim1, by have := h.few; dsimp only; simp; omega⟩
theorem drop_ok {S : SegD} (h : S.ok) (k : Nat) : SegD.ok { S with slots := S.slots.drop k } :=
  ⟨h.rising.sublist (List.drop_sublist _ _), fun x hx => h.each x (List.mem_of_mem_drop hx), h.sealed0, h.sealed1, h.trim0, h.trim1, by have := h.few; dsimp only; simp; omega⟩
theorem trim_ok {S : SegD} (h : S.ok) {n : Int} (h0 : S.trim < n) (h1 : n ≤ 2147483647) : SegD.ok { S with slots := S.slots.drop (belowN (poss S) n), trim := n } := by
  have hs := slots_split h n
  have ht := h.trim0
  refine ⟨h.rising.sublist (List.drop_sublist _ _), fun x hx => ?_, h.sealed0, h.sealed1, by dsimp only; omega, h1, by have := h.few; dsimp only; simp; omega⟩
  obtain ⟨a, b, c, d, e⟩ := h.each x (List.mem_of_mem_drop hx)
  exact ⟨a, b, hs.2 x hx, d, e⟩
theorem seal_ok {S : SegD} (h : S.ok) {n : Int} (h0 : S.sealed < n) (h1 : n ≤ 2147483647) : SegD.ok { S with sealed := n } :=
  ⟨h.rising, h.each, by have := h.sealed0; dsimp only; omega, h1, h.trim0, h.trim1, h.few⟩

end Go.Proofs.YtncmocmmkbmmjaaGreatDoor
