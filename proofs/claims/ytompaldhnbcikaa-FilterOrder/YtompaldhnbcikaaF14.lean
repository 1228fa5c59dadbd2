/- Records that came the wrong way round: which are ready. Own work; no statement. -/
import Derived.Test.YtompaldhnbcikaaF13
set_option linter.unusedSimpArgs false
set_option linter.unusedVariables false
namespace Go.Proofs.Ytompaldhnbcikaa
open Go.RowKit Go.Shelf Go.Sort

/-- The records from m + c down to m + 1. -/
def descL (m : Nat) : Nat → List RecD
  | 0 => []
  | c + 1 => rR ((m : Int) + (c : Int) + 1) :: descL m c
/-- The records from m + 1 up, c of them. -/
def upL (m c : Nat) : List RecD := (List.range c).map fun (i : Nat) => rR ((m : Int) + (i : Int) + 1)
theorem upL_length (m c : Nat) : (upL m c).length = c := by simp [upL]
theorem upL_get (m c i : Nat) (h : i < (upL m c).length) : (upL m c)[i].seq = (m : Int) + (i : Int) + 1 := by simp [upL, rR]
theorem descL_length (m : Nat) : ∀ c, (descL m c).length = c
  | 0 => rfl
  | c + 1 => by simp [descL, descL_length m c]
theorem descL_mem (m : Nat) : ∀ (c : Nat) (r : RecD), r ∈ descL m c → (m : Int) + 1 ≤ r.seq ∧ r.seq ≤ (m : Int) + (c : Int)
  | 0, r, h => by cases h
  | c + 1, r, h => by
    rcases List.mem_cons.1 h with rfl | h
    · simp [rR]; omega
    · have := descL_mem m c r h
      omega
theorem descL_snoc (m : Nat) : ∀ c, descL m (c + 1) = descL (m + 1) c ++ [rR ((m : Int) + 1)]
  | 0 => by simp [descL]
  | c + 1 => by
    rw [descL, descL_snoc m c, descL]
    simp only [List.cons_append]
    congr 2
    omega

/-- A filter that holds c records from its next one on, the last ones first. -/
def descF (m c : Nat) : FilD := ⟨1, 64, (m : Int) + 1, descL m c⟩
theorem descF_first (m c : Nat) : firstF (descF m (c + 1)) = some (rR ((m : Int) + 1)) := by
  unfold firstF descF
  dsimp only
  rw [descL_snoc, List.find?_append, List.find?_eq_none.2]
  · simp [rR]
  · intro r hr
    have := descL_mem (m + 1) c r hr
    simp
    omega
theorem descF_none (m : Nat) : firstF (descF m 0) = none := rfl
theorem descF_take (m c : Nat) : takeF (descF m (c + 1)) = descF (m + 1) c := by
  unfold takeF descF
  dsimp only
  rw [descL_snoc, List.filter_append, List.filter_eq_self.2]
  · simp [rR]
  · intro r hr
    have := descL_mem (m + 1) c r hr
    simp
    omega
theorem descF_takes : ∀ (j m c : Nat), j ≤ c → takesF j (descF m c) = descF (m + j) (c - j)
  | 0, m, c, _ => rfl
  | j + 1, m, c, h => by
    obtain ⟨c', rfl⟩ : ∃ c', c = c' + 1 := ⟨c - 1, by omega⟩
    rw [takesF, descF_take, descF_takes j (m + 1) c' (by omega)]
    congr 1
    · omega
    · omega
theorem upL_cons (m c : Nat) : upL m (c + 1) = rR ((m : Int) + 1) :: upL (m + 1) c := by
  unfold upL
  rw [List.range_succ_eq_map, List.map_cons, List.map_map]
  congr 1
  refine List.map_congr_left fun i _ => ?_
  simp only [Function.comp_apply]
  congr 1
  omega
theorem descF_ready : ∀ (c m : Nat), (descF m c).ok → readyL (descF m c) = upL m c
  | 0, m, h => (readyL_none (descF_none m)).trans rfl
  | c + 1, m, h => by
    have h1 := descF_first m c
    have := takeF_ok h h1
    rw [descF_take] at this
    rw [readyL_some h h1, descF_take, descF_ready c (m + 1) this, upL_cons]

theorem hasL_nil (w : World) : HasL w (.slice none 0 0) [] := ⟨[], rfl, World.ownsRow_nil _ _ _ _, fun q hq => by cases hq⟩
/-- Taken, however many are asked. -/
theorem taken_any {w0 : World} {p b : Nat} {F : FilD} (most : Nat) (hm2 : most ≤ 9223372036854775807) (w : World) (hf : AtF w0 w p b F) :
    Calls Try.prog 15 #[.pointer (some ⟨p, 0, none⟩), .int .i64 (most : Int)] w fun e w' => ∃ v, e = .returned (.tuple #[v, .bool true]) ∧ HasL w' v ((readyL F).take most) ∧ AtF w0 w' p b (takesF (min most (readyL F).length) F) ∧ Kept w w' := by
  by_cases h : 1 ≤ most
  · exact taken_on most h hm2 _ _ rfl rfl w hf
  · obtain rfl : most = 0 := by omega
    refine (taken_none p b F 0 (Int.le_refl _) w hf.fil).mono ?_
    rintro e w' ⟨h1, h2⟩
    refine ⟨_, h1, ?_, ?_, kept_below h2⟩
    · rw [List.take_zero]
      exact hasL_nil w'
    · rw [Nat.zero_min]
      exact hf.new h2

end Go.Proofs.Ytompaldhnbcikaa
