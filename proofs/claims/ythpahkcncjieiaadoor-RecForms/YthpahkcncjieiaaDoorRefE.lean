/- The walk of the reference's Split. Own work; no statement. -/
import Derived.Test.YthpahkcncjieiaaDoorRefC
set_option linter.unusedSimpArgs false
set_option linter.unusedVariables false
namespace Go.Proofs.YthpahkcncjieiaaDoor
open Go.RowKit Go.Shelf

theorem splitL_snoc_blank : ∀ (l : List UInt8), splitL (l ++ [32]) = splitL l ++ [[]] := fun l => by rw [splitL_append]; rfl
theorem splitL_snoc (c : UInt8) (hc : c ≠ 32) : ∀ (l : List UInt8), ∃ ys x, splitL l = ys ++ [x] ∧ splitL (l ++ [c]) = ys ++ [x ++ [c]]
  | [] => ⟨[], [], rfl, by simp [splitL, hc]⟩
  | d :: l => by
    obtain ⟨ys, x, h1, h2⟩ := splitL_snoc c hc l
    simp only [List.cons_append, splitL]
    by_cases hd : d = 32
    · rw [if_pos hd, if_pos hd, h1, h2]
      exact ⟨[] :: ys, x, rfl, rfl⟩
    · rw [if_neg hd, if_neg hd, h1, h2]
      cases ys with
      | nil => exact ⟨[], d :: x, rfl, rfl⟩
      | cons y ys => exact ⟨(d :: y) :: ys, x, rfl, rfl⟩

def strs (ws : List (List UInt8)) : List Value := ws.map fun x => .string ⟨x.toArray⟩

theorem Tryd.info9 : (Tryd.prog.info? 9).map (fun i => (i.zero, i.size, i.bytes)) = some (some (.string ⟨#[]⟩), 1, 16) := by kernel_rfl

theorem strs_set (ys : List (List UInt8)) (x y : List UInt8) : (strs (ys ++ [x])).set ys.length (.string ⟨y.toArray⟩) = strs (ys ++ [y]) := by
  rw [strs, strs, List.map_append, List.map_append, List.set_append_right _ _ (by simp)]
  simp
theorem splitL_count : ∀ (l : List UInt8), (splitL l).length ≤ l.length + 1
  | [] => by simp [splitL]
  | c :: l => by
    have ih := splitL_count l
    simp only [splitL]
    split
    · simp; omega
    · cases hl : splitL l with
      | nil => simp
      | cons y ys => rw [hl] at ih; simp at ih ⊢; omega
theorem split_mem_len : ∀ (l : List UInt8) (x : List UInt8), x ∈ splitL l → x.length ≤ l.length
  | [], x, h => by simp [splitL] at h; simp [h]
  | c :: l, x, h => by
    simp only [splitL] at h
    split at h
    · rcases List.mem_cons.1 h with rfl | h
      · simp
      · have := split_mem_len l x h; simp; omega
    · cases hl : splitL l with
      | nil => exact absurd hl (splitL_ne l)
      | cons y ys =>
        rw [hl] at h
        rcases List.mem_cons.1 h with rfl | h
        · have := split_mem_len l y (by rw [hl]; simp); simp; omega
        · have := split_mem_len l x (by rw [hl]; simp [h]); simp; omega
theorem byte_ext (s : ByteArray) (x : List UInt8) (k : Nat) (h : k < s.size) : (⟨x.toArray⟩ : ByteArray) ++ s.extract k (k + 1) = ⟨(x ++ [s[k]]).toArray⟩ := by
  have e : s.extract k (k + 1) = ⟨[s[k]].toArray⟩ := by
    have e0 : s.extract k (k + 1) = ⟨((s.data.toList.drop k).take (k + 1 - k)).toArray⟩ := extract_list s.data.toList k (k + 1)
    have hk : k < s.data.toList.length := by rw [← Lib.size_eq]; exact h
    rw [e0, List.drop_eq_getElem_cons hk, show k + 1 - k = 0 + 1 by omega, List.take_succ_cons, List.take_zero]
    rfl
  rw [e, app_bytes]

set_option maxRecDepth 20000 in
set_option maxHeartbeats 2000000 in
theorem refSplit_calls (s : ByteArray) (w : World) (hs : s.size ≤ 1048576) :
    Calls Tryd.prog 48 #[.string s, .int .u8 32] w fun e w' => ∃ v, e = .returned v ∧ w'.ownsRow w.heap.size 9 1 v (splitL s.data.toList).length (strs (splitL s.data.toList)) ∧ Below w.heap.size w w' := by
  obtain ⟨i0, hi, hz0, hz1, hz2⟩ := info_parts Tryd.info9
  have hrow0 : (w.alloc (.cells #[.string ⟨#[]⟩] 9)).ownsRow w.heap.size 9 1 (.slice (some ⟨w.heap.size, 0, none⟩) 1 1) 1 (strs (splitL [])) := World.ownsRow_lit w #[.string ⟨#[]⟩] 1 (Nat.le_refl _) (by unfold maxLen; omega) rfl
  go_enter Tryd.func48, Tryd.ntmps48
  go_wp2_with fail
  go_loopw [5, 6] (fun v i wr => ∃ k : Nat, k ≤ s.size ∧ i = .int .i64 (k : Int) ∧ wr.ownsRow w.heap.size 9 1 v (splitL (s.data.toList.take k)).length (strs (splitL (s.data.toList.take k))) ∧ Below w.heap.size w wr) (fun _ i _ => s.size - (intOf i).toNat)
  case atStart => exact ⟨0, Nat.zero_le _, rfl, hrow0, alloc_below _ _⟩
  case round =>
    obtain ⟨k, hk, rfl, hown, hB⟩ := hrel
    clear hrow0
    have hbs := hB.size
    have hlen : (splitL (s.data.toList.take k)).length ≤ k + 1 := by
      have := splitL_count (s.data.toList.take k)
      rw [List.length_take] at this
      omega
    by_cases hkl : k < s.size
    · have hlt : (k : Int) < (s.size : Int) := by omega
      have hts := take_snoc_byte s k hkl
      by_cases hc : s[k] = 32
      · have hc1 : (((s[k].toNat : Nat) : Int) == 32) = true := by rw [hc]; rfl
        have hsp := splitL_snoc_blank (s.data.toList.take k)
        rw [← hc, ← hts] at hsp
        replace hsp := hide hsp
        clear hts hc
        generalize splitL (s.data.toList.take k) = ws at *
        obtain ⟨pv, cv, rfl⟩ := ownsRow_slice hown
        go_wp2_with (at_builtin; refine wpList_append_own _ rfl _ _ 86 rfl w.heap.size 9 i0 (.string ⟨#[]⟩) 1 16 Tryd.underlying86 hi hz0 hz1 hz2 rfl (by decide) _ _ _ rfl (hown.alloc _) ⟨wr.heap.size, 0, none⟩ 1 1 [.string ⟨#[]⟩] rfl rfl (cell_one_new _ _ _) (by intro u hu; simp at hu; subst hu; rfl) (by unfold maxLen; omega) (by omega) (by simp; omega) ?_; intro v2 w2 hown2 hgrow2 _)
        refine ⟨⟨k + 1, by omega, by go_num, ?_, (hB.alloc hB.size _).grown hgrow2 (by simp; omega) (fun j hj => (hown.lt j hj).1)⟩, by simp [intOf]; omega⟩
        rw [hsp.out, List.length_append, strs, List.map_append]
        exact hown2
      · have hc1 : (((s[k].toNat : Nat) : Int) == 32) = false := by
          rw [beq_eq_false_iff_ne]
          intro e
          exact hc (UInt8.toNat_inj.1 (by simp; omega))
        obtain ⟨ys, x, h1, h2⟩ := splitL_snoc s[k] hc (s.data.toList.take k)
        have hxl : x.length ≤ k := by
          have := split_mem_len (s.data.toList.take k) x (by rw [h1]; simp)
          rw [List.length_take] at this
          omega
        rw [← hts] at h2
        have hbe := hide (byte_ext s x k hkl)
        rw [h1] at hown hlen
        rw [List.length_append, List.length_singleton] at hown hlen
        replace h2 := hide h2
        clear hts h1 hc
        obtain ⟨gg, cv, rfl⟩ := ownsRow_succ hown
        have hcl := hown.cellAt ys.length (by omega)
        rw [strs, List.getElem?_map, List.getElem?_append_right (Nat.le_refl _), Nat.sub_self] at hcl
        simp only [List.getElem?_cons_zero, Option.map_some] at hcl
        have hf := hown.frozenAt ys.length
        have hglt := (hown.lt gg rfl).1
        obtain ⟨hown2, -⟩ := hown.stored ys.length (.string ⟨(x ++ [s[k]]).toArray⟩)
        replace hown2 := hide hown2
        have hi1 : (ys.length : Int) < (ys.length : Int) + 1 := by omega
        have hk2 : (k : Int) + 1 ≤ (s.size : Int) := by omega
        clear hown
        go_wp2_with fail
        go_region
        go_wp2_with fail
        refine ⟨⟨k + 1, by omega, by go_num, ?_, (hB.setCell (p := ⟨gg, ys.length, none⟩) hglt _).drew⟩, by simp [intOf]; omega⟩
        rw [hbe.out, h2.out, List.length_append, List.length_singleton]
        have := hown2.out
        rw [strs_set] at this
        exact this
    · have e : s.data.toList.take k = s.data.toList := List.take_of_length_le (by rw [← Lib.size_eq]; omega)
      rw [e] at hown
      clear e hlen
      go_wp2_with fail
      go_ret
      exact ⟨_, rfl, hown, hB⟩

end Go.Proofs.YthpahkcncjieiaaDoor
