/- The walk of RecDeps. Own work; no statement. -/
import Derived.Test.YthpahkcncjieiaaDoorR12
import Derived.Test.YthpahkcncjieiaaDoorRW
set_option linter.unusedSimpArgs false
set_option linter.unusedVariables false
namespace Go.Proofs.YthpahkcncjieiaaDoor
open Go.RowKit Go.Sort

theorem recParseB_calls (s : ByteArray) (w : World) (hs : s.size ≤ 1099511627776) :
    Calls Tryd.prog 10 #[.string s] w fun e w' => ∃ v, e = .returned (.tuple #[v, .int .i64 (parseR s.data.toList).2]) ∧ OwnRec w.heap.size w' v (parseR s.data.toList).1 ∧ Below w.heap.size w w' := by
  have := recParse_calls s.data.toList w (by rw [← Lib.size_eq]; exact hs)
  simpa using this

theorem textR_size {r : RecD} (h0 : -9223372036854775808 ≤ r.site) (h1 : r.site ≤ 9223372036854775807) (g0 : -9223372036854775808 ≤ r.seq) (g1 : r.seq ≤ 9223372036854775807) (hr : InR r.dep) : (textR r).size ≤ 48 + 22 * r.dep.length + r.key.size + r.val.size := by
  have l1 := Lib.itoa_length_le r.site h0 h1
  have l2 := Lib.itoa_length_le r.seq g0 g1
  have l3 := textL_length hr
  rw [Lib.size_eq, textR_list, Lib.size_eq r.key, Lib.size_eq r.val]
  simp only [List.length_append, List.length_cons]
  omega

theorem inR_of_inS {l : List Int} (h : InS l) : InR l := fun x hx => by have := h x hx; omega

theorem deps0_inS {own other : Int} (h0 : 0 ≤ own) (h1 : own ≤ 65535) (h2 : 0 ≤ other) (h3 : other ≤ 65535) : InS [own, 0, 0, 0, other] := by
  intro x hx
  simp only [List.mem_cons, List.not_mem_nil, or_false] at hx
  omega
theorem deps0_check {seq own other : Int} (hs : 0 ≤ seq) (hs' : seq ≤ 65535) (h0 : 0 ≤ own) (h1 : own ≤ 65535) (h2 : 0 ≤ other) (h3 : other ≤ 65535) :
    checkR ⟨0, 1 + seq, [own, 0, 0, 0, other], ⟨#[107]⟩, ⟨#[]⟩⟩ 5 = (if 1 + seq ≤ own then 13 else 0) ∧ checkR ⟨0, 1 + seq, [own, 0, 0, 0, other], ⟨#[107]⟩, ⟨#[]⟩⟩ 4 = 4 := by
  have hk : isKeyL (⟨#[107]⟩ : ByteArray).data.toList = true := by decide +kernel
  have hv : checkValL (⟨#[]⟩ : ByteArray).data.toList = 0 := by decide +kernel
  have hc : checkL [own, 0, 0, 0, other] 5 = 0 := by
    unfold checkL
    rw [if_neg (by omega), if_neg (by simp)]
    simp only [checkN]
    repeat (rw [if_neg (by omega)])
  have hc4 : checkL [own, 0, 0, 0, other] 4 = 4 := by
    unfold checkL
    rw [if_neg (by omega), if_pos (by simp)]
  have hg : geti [own, 0, 0, 0, other] 0 = own := by unfold geti; simp
  constructor
  · unfold checkR
    dsimp only
    rw [if_neg (by omega), if_pos hc, hg, hk, hv]
    rfl
  · unfold checkR
    dsimp only
    rw [if_neg (by omega), if_neg (by rw [hc4]; decide), hc4]
theorem deps1_inS {own other : Int} (h0 : 0 ≤ own) (h1 : own ≤ 65535) (h2 : 0 ≤ other) (h3 : other ≤ 65535) : InS [0, own, 0, 0, other] := by
  intro x hx
  simp only [List.mem_cons, List.not_mem_nil, or_false] at hx
  omega
theorem deps1_check {seq own other : Int} (hs : 0 ≤ seq) (hs' : seq ≤ 65535) (h0 : 0 ≤ own) (h1 : own ≤ 65535) (h2 : 0 ≤ other) (h3 : other ≤ 65535) :
    checkR ⟨1, 1 + seq, [0, own, 0, 0, other], ⟨#[107]⟩, ⟨#[]⟩⟩ 5 = (if 1 + seq ≤ own then 13 else 0) ∧ checkR ⟨1, 1 + seq, [0, own, 0, 0, other], ⟨#[107]⟩, ⟨#[]⟩⟩ 4 = 4 := by
  have hk : isKeyL (⟨#[107]⟩ : ByteArray).data.toList = true := by decide +kernel
  have hv : checkValL (⟨#[]⟩ : ByteArray).data.toList = 0 := by decide +kernel
  have hc : checkL [0, own, 0, 0, other] 5 = 0 := by
    unfold checkL
    rw [if_neg (by omega), if_neg (by simp)]
    simp only [checkN]
    repeat (rw [if_neg (by omega)])
  have hc4 : checkL [0, own, 0, 0, other] 4 = 4 := by
    unfold checkL
    rw [if_neg (by omega), if_pos (by simp)]
  have hg : geti [0, own, 0, 0, other] 1 = own := by unfold geti; simp
  constructor
  · unfold checkR
    dsimp only
    rw [if_neg (by omega), if_pos hc, hg, hk, hv]
    rfl
  · unfold checkR
    dsimp only
    rw [if_neg (by omega), if_neg (by rw [hc4]; decide), hc4]
theorem deps2_inS {own other : Int} (h0 : 0 ≤ own) (h1 : own ≤ 65535) (h2 : 0 ≤ other) (h3 : other ≤ 65535) : InS [0, 0, own, 0, other] := by
  intro x hx
  simp only [List.mem_cons, List.not_mem_nil, or_false] at hx
  omega
theorem deps2_check {seq own other : Int} (hs : 0 ≤ seq) (hs' : seq ≤ 65535) (h0 : 0 ≤ own) (h1 : own ≤ 65535) (h2 : 0 ≤ other) (h3 : other ≤ 65535) :
    checkR ⟨2, 1 + seq, [0, 0, own, 0, other], ⟨#[107]⟩, ⟨#[]⟩⟩ 5 = (if 1 + seq ≤ own then 13 else 0) ∧ checkR ⟨2, 1 + seq, [0, 0, own, 0, other], ⟨#[107]⟩, ⟨#[]⟩⟩ 4 = 4 := by
  have hk : isKeyL (⟨#[107]⟩ : ByteArray).data.toList = true := by decide +kernel
  have hv : checkValL (⟨#[]⟩ : ByteArray).data.toList = 0 := by decide +kernel
  have hc : checkL [0, 0, own, 0, other] 5 = 0 := by
    unfold checkL
    rw [if_neg (by omega), if_neg (by simp)]
    simp only [checkN]
    repeat (rw [if_neg (by omega)])
  have hc4 : checkL [0, 0, own, 0, other] 4 = 4 := by
    unfold checkL
    rw [if_neg (by omega), if_pos (by simp)]
  have hg : geti [0, 0, own, 0, other] 2 = own := by unfold geti; simp
  constructor
  · unfold checkR
    dsimp only
    rw [if_neg (by omega), if_pos hc, hg, hk, hv]
    rfl
  · unfold checkR
    dsimp only
    rw [if_neg (by omega), if_neg (by rw [hc4]; decide), hc4]
theorem deps3_inS {own other : Int} (h0 : 0 ≤ own) (h1 : own ≤ 65535) (h2 : 0 ≤ other) (h3 : other ≤ 65535) : InS [0, 0, 0, own, other] := by
  intro x hx
  simp only [List.mem_cons, List.not_mem_nil, or_false] at hx
  omega
theorem deps3_check {seq own other : Int} (hs : 0 ≤ seq) (hs' : seq ≤ 65535) (h0 : 0 ≤ own) (h1 : own ≤ 65535) (h2 : 0 ≤ other) (h3 : other ≤ 65535) :
    checkR ⟨3, 1 + seq, [0, 0, 0, own, other], ⟨#[107]⟩, ⟨#[]⟩⟩ 5 = (if 1 + seq ≤ own then 13 else 0) ∧ checkR ⟨3, 1 + seq, [0, 0, 0, own, other], ⟨#[107]⟩, ⟨#[]⟩⟩ 4 = 4 := by
  have hk : isKeyL (⟨#[107]⟩ : ByteArray).data.toList = true := by decide +kernel
  have hv : checkValL (⟨#[]⟩ : ByteArray).data.toList = 0 := by decide +kernel
  have hc : checkL [0, 0, 0, own, other] 5 = 0 := by
    unfold checkL
    rw [if_neg (by omega), if_neg (by simp)]
    simp only [checkN]
    repeat (rw [if_neg (by omega)])
  have hc4 : checkL [0, 0, 0, own, other] 4 = 4 := by
    unfold checkL
    rw [if_neg (by omega), if_pos (by simp)]
  have hg : geti [0, 0, 0, own, other] 3 = own := by unfold geti; simp
  constructor
  · unfold checkR
    dsimp only
    rw [if_neg (by omega), if_pos hc, hg, hk, hv]
    rfl
  · unfold checkR
    dsimp only
    rw [if_neg (by omega), if_neg (by rw [hc4]; decide), hc4]

theorem u16_range {n : Int} (h : (Lit.int .u16 n).wf = true) : 0 ≤ n ∧ n ≤ 65535 := by
  have h' : (decide (IntKind.u16.min ≤ n) && decide (n ≤ IntKind.u16.max)) = true := h
  simp only [Bool.and_eq_true, decide_eq_true_eq] at h'
  exact h'
theorem u8_range {n : Int} (h : (Lit.int .u8 n).wf = true) : 0 ≤ n ∧ n ≤ 255 := by
  have h' : (decide (IntKind.u8.min ≤ n) && decide (n ≤ IntKind.u8.max)) = true := h
  simp only [Bool.and_eq_true, decide_eq_true_eq] at h'
  exact h'

end Go.Proofs.YthpahkcncjieiaaDoor
