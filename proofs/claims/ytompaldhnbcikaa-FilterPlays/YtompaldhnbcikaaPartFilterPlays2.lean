/- Own work: the parts W7, W8, W9, Range, W11, W12, W13, W14, R1, R2, FrameF, RangeL of the proof, laid together. -/
import Derived.Test.YtompaldhnbcikaaPartFilterPlays1
import Derived.Test.YtompaldhnbcikaaShelf
import Derived.Laws.BytesArg
import Derived.Lib.ItoaLen
import Derived.Lib.AppendIntMem
import Derived.Lib.UnsafeStr
import Derived.RangeFuncNested
import Derived.RangeFuncBound
import Derived.RangeFuncCalls
import Derived.RangeFuncLeaves
import Derived.Shelf.Abstract
import Derived.Shelf.RegionOpen
import Derived.OwnWalkIn
import Derived.TacticsInMore
import Derived.LoopNIn
import Derived.LoopIn
import Derived.Maps.OwnIn
import Derived.Lib.Bytealg
import Derived.Deep.RegionWith
import Derived.Deep.Fields
import Derived.Lib.SmallJoins
import Derived.Deep.Slices
/- The walk of vec's Text: a vector in words. Own work; no statement. -/
set_option linter.unusedSimpArgs false
set_option linter.unusedVariables false
namespace Go.Proofs.Ytompaldhnbcikaa
open Go.RowKit

theorem conv_row {P : Program} {w : World} {base n : Nat} {e src dst : TypeId} {v : Value} {bs : List UInt8} (h : w.ownsRow base e 1 v n (Lib.byteCells bs))
    (hs : P.underlying src = some (.slice e)) (he : P.underlying e = some (.int .u8)) (hd : P.underlying dst = some .string) : (convert src dst v).run P w = .ok (.string ⟨bs.toArray⟩) w := by
  have hn : bs.length = n := by simpa [Lib.byteCells] using h.1
  have e1 : strOfNums (bs.map fun b => (b.toNat : Int)) = ⟨bs.toArray⟩ := by
    have : (bs.map fun b => (b.toNat : Int)).map (fun n => UInt8.ofNat n.toNat) = bs := by
      rw [List.map_map]
      conv => rhs; rw [← List.map_id bs]
      apply List.map_congr_left
      intro b _
      simp
    unfold strOfNums
    rw [this]
  rcases h.2 with ⟨rfl, rfl⟩ | ⟨g, cap, cur, rfl, hb, hg, hnc, hcm, hcs, ht⟩
  · obtain rfl : bs = [] := List.eq_nil_of_length_eq_zero hn
    exact run_convert_bytes_nil w src e hs he 0 0 dst hd
  · rw [← e1]
    refine run_convert_bytes_arg w src e hs he g 0 n cap _ (by simpa using hn) (fun i hi => ?_) dst hd
    rw [Nat.zero_add, h.cellAt i (by omega)]
    simp [Lib.byteCells, List.getD, show i < bs.length by omega]

/-- The library's table of powers of ten lies where it lay, in this world and in all that come out of it. -/
def Pow (w : World) : Prop := Lib.TabBelow Try.prog w.heap.size w "internal/strconv.uint64pow10" .u64 Lib.pow10Tab
theorem Pow.below {w w' : World} (h : Pow w) (hb : Below w.heap.size w w') : Pow w' := fun w2 h2 => h w2 (hb.trans (h2.mono hb.size))

/-- The numbers are such as an int holds. -/
def InR (l : List Int) : Prop := ∀ x ∈ l, -9223372036854775808 ≤ x ∧ x ≤ 9223372036854775807

/-- The first k numbers in words, with blanks between. -/
def numsTo (l : List Int) : Nat → List UInt8
  | 0 => []
  | k + 1 => numsTo l k ++ ((if k = 0 then [] else [32]) ++ Lib.itoa (l.getD k 0))
/-- A vector in words. -/
def textL (l : List Int) : List UInt8 := 91 :: (numsTo l (writtenL l) ++ [93])

theorem getD_inR {l : List Int} (h : InR l) (k : Nat) : -9223372036854775808 ≤ l.getD k 0 ∧ l.getD k 0 ≤ 9223372036854775807 := by
  by_cases hk : k < l.length
  · rw [List.getD, List.getElem?_eq_getElem hk]
    exact h _ (List.getElem_mem hk)
  · rw [List.getD, List.getElem?_eq_none (by omega)]
    simp

theorem numsTo_length {l : List Int} (h : InR l) : ∀ k, (numsTo l k).length ≤ 22 * k
  | 0 => by simp [numsTo]
  | k + 1 => by
    have h1 := numsTo_length h k
    have h2 := Lib.itoa_length_le (l.getD k 0) (getD_inR h k).1 (getD_inR h k).2
    have h3 : ((if k = 0 then [] else [32] : List UInt8)).length ≤ 1 := by split <;> simp
    simp only [numsTo, List.length_append]
    omega

theorem snoc93 (l : List UInt8) : Lib.byteCells l ++ [.int .u8 93] = Lib.byteCells (l ++ [93]) := by simp [Lib.byteCells]
theorem snoc32 (l : List UInt8) : Lib.byteCells l ++ [.int .u8 32] = Lib.byteCells (l ++ [32]) := by simp [Lib.byteCells]

theorem Try.info5 : (Try.prog.info? 5).map (fun i => (i.zero, i.size, i.bytes)) = some (some (.int .u8 0), 1, 1) := by kernel_rfl

theorem written_nil : ((writtenL [] : Nat) : Int) = 0 := rfl

end Go.Proofs.Ytompaldhnbcikaa

/- vec's All: the range over a vector's sites, by its contract; Sum, which goes over it. Own work; no statement. -/
set_option linter.unusedSimpArgs false
set_option linter.unusedVariables false
namespace Go.Proofs.Ytompaldhnbcikaa
open Go.RowKit Go.Shelf

attribute [local go_sem] Oper.semAt_some

/-- The sites below k that are not nothing, with their numbers. -/
def pairsTo (l : List Int) : Nat → List (Int × Int)
  | 0 => []
  | k + 1 => pairsTo l k ++ (if l.getD k 0 = 0 then [] else [((k : Int), l.getD k 0)])

theorem pairsTo_length (l : List Int) : ∀ k, (pairsTo l k).length ≤ k
  | 0 => by simp [pairsTo]
  | k + 1 => by
    have := pairsTo_length l k
    simp only [pairsTo, List.length_append]
    split <;> simp <;> omega

theorem pairsTo_skip (l : List Int) (k : Nat) (x : Int) (hx : l.getD k 0 = x) (h : x = 0) : pairsTo l (k + 1) = pairsTo l k := by simp only [pairsTo]; rw [if_pos (hx.trans h)]; simp
theorem pairsTo_take (l : List Int) (k : Nat) (x : Int) (hx : l.getD k 0 = x) (h : ¬ x = 0) : pairsTo l (k + 1) = pairsTo l k ++ [((k : Int), x)] := by simp only [pairsTo]; rw [if_neg (by rw [hx]; exact h), hx]

/-- Bs is the box of what All goes over: a row of its own, g, with the numbers l. -/
def IsAll (w : World) (Bs g : Nat) (l : List Int) : Prop :=
  g < w.heap.size ∧ Bs < w.heap.size ∧ w.cell? ⟨Bs, 0, none⟩ = some (.slice (some ⟨g, 0, none⟩) l.length l.length) ∧ ∀ t, t < l.length → w.cell? ⟨g, t, none⟩ = some (.int .i64 (l.getD t 0))

theorem IsAll.below {w w' : World} {Bs g : Nat} {l : List Int} (h : IsAll w Bs g l) (hb : Below w.heap.size w w') : IsAll w' Bs g l :=
  ⟨Nat.lt_of_lt_of_le h.1 hb.size, Nat.lt_of_lt_of_le h.2.1 hb.size, (hb.cell (p := ⟨Bs, 0, none⟩) h.2.1).trans h.2.2.1, fun t ht => (hb.cell (p := ⟨g, t, none⟩) h.1).trans (h.2.2.2 t ht)⟩

/-- What a round of a loop over All must keep: the row of the numbers. -/
def KeepsRow (g : Nat) (W W' : World) : Prop := W'.heap[g]? = W.heap[g]?
theorem keepsRow_t {g : Nat} {A B C : World} (h : KeepsRow g A B) (k : KeepsRow g B C) : KeepsRow g A C := Eq.trans k h
theorem keepsRow_b {g n : Nat} (hg : g < n) (W : World) (l : Nat) (o o' : Obj) (hl : n ≤ l) (_ : W.heap[l]? = some o) (_ : o.isCells = false) (_ : o.isWalk = false) : KeepsRow g W (W.putObj l o') := by
  unfold KeepsRow World.putObj
  simp only [Array.getElem?_setIfInBounds]
  rw [if_neg (by omega)]

theorem KeepsRow.cell {g t : Nat} {W W' : World} (h : KeepsRow g W W') : W'.cell? ⟨g, t, none⟩ = W.cell? ⟨g, t, none⟩ := World.cell?_of_block (w := W) (a := ⟨g, t, none⟩) h

/-- The numbers together, as an int adds them. -/
def sumW (ps : List (Int × Int)) : Int := ps.foldl (fun s p => wrap64 (s + p.2)) 0
theorem sumW_snoc (ps : List (Int × Int)) (x : Int × Int) : sumW (ps ++ [x]) = wrap64 (sumW ps + x.2) := by simp [sumW]

end Go.Proofs.Ytompaldhnbcikaa

/- Memory laws for rows and boxes side by side; Sum in plain numbers; the laws' Pairs. Own work; no statement. -/
set_option linter.unusedSimpArgs false
set_option linter.unusedVariables false
namespace Go.Proofs.Ytompaldhnbcikaa
open Go.RowKit Go.Shelf

attribute [local go_sem] Oper.semAt_some

theorem ownsRow_slice {W : World} {base : Nat} {e : TypeId} {size : Nat} {v : Value} {n : Nat} {xs : List Value} (h : W.ownsRow base e size v n xs) : ∃ a cap, v = .slice a n cap := by
  rcases h.2 with ⟨rfl, rfl⟩ | ⟨g, cap, cur, rfl, _⟩
  · exact ⟨_, _, rfl⟩
  · exact ⟨_, _, rfl⟩
theorem ownsRow_of_heap {W W' : World} {base : Nat} {e : TypeId} {size : Nat} {v : Value} {n : Nat} {xs : List Value} (h : W.ownsRow base e size v n xs) (hk : ∀ k, v.ownBlock = some k → W'.heap[k]? = W.heap[k]?) : W'.ownsRow base e size v n xs := by
  refine ⟨h.1, ?_⟩
  rcases h.2 with hn | ⟨g, cap, cur, rfl, hb, hgg, rest⟩
  · exact .inl hn
  · exact .inr ⟨g, cap, cur, rfl, hb, (hk g rfl).trans hgg, rest⟩
theorem ownsRow_low {W : World} {B B' : Nat} {e : TypeId} {size : Nat} {v : Value} {n : Nat} {xs : List Value} (h : W.ownsRow B e size v n xs) (hB : B' ≤ B) : W.ownsRow B' e size v n xs := by
  refine ⟨h.1, ?_⟩
  rcases h.2 with hn | ⟨g, cap, cur, rfl, hb, rest⟩
  · exact .inl hn
  · exact .inr ⟨g, cap, cur, rfl, Nat.le_trans hB hb, rest⟩
theorem boxed_of_heap {W W' : World} {B : Nat} {t : TypeId} {v : Value} (h : Boxed W B t v) (hk : W'.heap[B]? = W.heap[B]?) : Boxed W' B t v := hk.trans h
/-- Behind 'x = append(x, ..)' by way of x's box B: every other block is as it was. -/
theorem app_other {W w1 : World} {tmp : Obj} {row : Option Nat} {B : Nat} {v' : Value} (hgrow : (W.alloc tmp).grownBy w1 row) (k : Nat) (hk : k < W.heap.size) (hne : some k ≠ row) (hB : k ≠ B) : (w1.setCell ⟨B, 0, none⟩ v').heap[k]? = W.heap[k]? :=
  (Below.heap_setCell _ _ _ _ hB).trans ((hgrow.block k (by simp; omega) hne).trans (Below.heap_alloc _ _ _ hk))
theorem own_keeps {X Y : World} {row : Option Nat} (hg : X.grownBy Y row) (hrow : ∀ r, row = some r → ∃ o : Obj, X.heap[r]? = some o ∧ o.isCells = false) {k : Nat} {c : Array Value} {t : TypeId} {fr : Nat × Nat} (h : X.heap[k]? = some (.cells c t fr)) : Y.heap[k]? = X.heap[k]? := by
  refine hg.block k (Array.getElem?_eq_some_iff.1 h).1 (fun e => ?_)
  obtain ⟨o, ho, hc⟩ := hrow k e.symm
  rw [h] at ho
  cases ho
  cases hc
theorem boxed_own' {X Y : World} {row : Option Nat} (hg : X.grownBy Y row) (hrow : ∀ r, row = some r → ∃ o : Obj, X.heap[r]? = some o ∧ o.isCells = false) {B : Nat} {t : TypeId} {v : Value} (h : Boxed X B t v) : Boxed Y B t v := (own_keeps hg hrow h).trans h
theorem ownsRow_own' {X Y : World} {row : Option Nat} (hg : X.grownBy Y row) (hrow : ∀ r, row = some r → ∃ o : Obj, X.heap[r]? = some o ∧ o.isCells = false) {base : Nat} {e : TypeId} {size : Nat} {v : Value} {n : Nat} {xs : List Value} (h : X.ownsRow base e size v n xs) : Y.ownsRow base e size v n xs := by
  refine ownsRow_of_heap h (fun k hk => ?_)
  rcases h.2 with ⟨rfl, _⟩ | ⟨g, cap, cur, rfl, hb, hgg, rest⟩
  · cases hk
  · obtain rfl : g = k := by simpa [Value.ownBlock] using hk
    exact own_keeps hg hrow hgg

/-- Two boxes side by side, each with a slice that owns a row of its own, and the rows are two. -/
def Two (W : World) (n₀ : Nat) (t e : TypeId) (c c' : Nat) (v v' : Value) (n n' : Nat) (xs ys : List Value) : Prop :=
  Boxed W c t v ∧ Boxed W c' t v' ∧ W.ownsRow n₀ e 1 v n xs ∧ W.ownsRow n₀ e 1 v' n' ys ∧ ∀ k, v.ownBlock = some k → v'.ownBlock ≠ some k
theorem Two.symm {W : World} {n₀ : Nat} {t e : TypeId} {c c' : Nat} {v v' : Value} {n n' : Nat} {xs ys : List Value} (h : Two W n₀ t e c c' v v' n n' xs ys) : Two W n₀ t e c' c v' v n' n ys xs :=
  ⟨h.2.1, h.1, h.2.2.2.1, h.2.2.1, fun k h1 h2 => h.2.2.2.2 k h2 h1⟩
theorem Two.own {X Y : World} {row : Option Nat} (hg : X.grownBy Y row) (hrow : ∀ r, row = some r → ∃ o : Obj, X.heap[r]? = some o ∧ o.isCells = false) {n₀ : Nat} {t e : TypeId} {c c' : Nat} {v v' : Value} {n n' : Nat} {xs ys : List Value} (h : Two X n₀ t e c c' v v' n n' xs ys) : Two Y n₀ t e c c' v v' n n' xs ys :=
  ⟨boxed_own' hg hrow h.1, boxed_own' hg hrow h.2.1, ownsRow_own' hg hrow h.2.2.1, ownsRow_own' hg hrow h.2.2.2.1, h.2.2.2.2⟩
/-- 'x = append(x, y)', x the one of the two. -/
theorem Two.app {W w1 : World} {n₀ : Nat} {t e : TypeId} {c c' : Nat} {v v' u : Value} {n n' m : Nat} {xs ys zs : List Value} {tmp : Obj} (h : Two W n₀ t e c c' v v' n n' xs ys) (hte : t ≠ e) (hcc : c ≠ c') (hn₀ : n₀ ≤ W.heap.size) (hc : n₀ ≤ c)
    (hown : w1.ownsRow n₀ e 1 u m zs) (hgrow : (W.alloc tmp).grownBy w1 v.ownBlock) (hat : u.ownBlock = v.ownBlock ∨ u.ownBlock = some (W.alloc tmp).heap.size) :
    Boxed w1 c t v ∧ Two (w1.setCell ⟨c, 0, none⟩ u) n₀ t e c c' u v' m n' zs ys ∧ KeepsOthers W (w1.setCell ⟨c, 0, none⟩ u) ∧ Below n₀ W (w1.setCell ⟨c, 0, none⟩ u) ∧ W.heap.size ≤ w1.heap.size ∧
      Hid (∀ b t' z, Boxed W b t' z → t' ≠ e → b ≠ c → Boxed (w1.setCell ⟨c, 0, none⟩ u) b t' z) := by
  obtain ⟨ba, bb, ra, rb, hap⟩ := h
  obtain ⟨h1, h2, h3, h4, h5⟩ := ba.appended hte ra hn₀ hc hown hgrow
  refine ⟨h1, ⟨h2, boxed_of_heap bb (app_other hgrow c' bb.lt (bb.not_row hte ra) (fun e => hcc e.symm)), h3, ownsRow_of_heap rb (fun k hk => app_other hgrow k (rb.lt k hk).2 (fun e => hap k e.symm hk) (fun e => ba.not_row hte rb (by rw [hk, e]))), fun k h6 h7 => ?_⟩, h4, h5, ?_, fun b t' z hb ht hbc => boxed_of_heap hb (app_other hgrow b hb.lt (hb.not_row ht ra) hbc)⟩
  case refine_2 => have := hgrow.size; simp at this; omega
  rcases hat with e | e
  · exact hap k (e ▸ h6) h7
  · have := (rb.lt k h7).2
    rw [h6] at e
    simp at e
    omega
/-- The numbers that All tells, added: those of the vector. -/
theorem sum_pairsTo (l : List Int) (h : ∀ x ∈ l, 0 ≤ x ∧ x ≤ 1099511627776) (hl : l.length ≤ 1048576) : ∀ k, k ≤ l.length → sumW (pairsTo l k) = (l.take k).sum ∧ 0 ≤ (l.take k).sum ∧ (l.take k).sum ≤ 1099511627776 * k
  | 0, _ => by simp [pairsTo, sumW]
  | k + 1, hk => by
    obtain ⟨h1, h2, h3⟩ := sum_pairsTo l h hl k (by omega)
    have hx := h (l.getD k 0) (by rw [List.getD, List.getElem?_eq_getElem (by omega)]; exact List.getElem_mem _)
    have hs : (l.take (k + 1)).sum = (l.take k).sum + l.getD k 0 := by rw [take_snoc_getD l k (by omega)]; simp
    have hk3 : (1099511627776 : Int) * ((k + 1 : Nat) : Int) = 1099511627776 * (k : Int) + 1099511627776 := by omega
    rw [hs, hk3]
    refine ⟨?_, by omega, by omega⟩
    simp only [pairsTo]
    split
    · rename_i h0
      rw [List.append_nil, h1, h0]
      omega
    · rw [sumW_snoc, h1]
      unfold wrap64
      omega

end Go.Proofs.Ytompaldhnbcikaa

/- A range over a function whose iterator keeps a variable of its own in memory: what it does between two rounds is told by a relation E, which the caller's invariant must abide. Own work; no statement. -/
set_option linter.unusedSimpArgs false
set_option linter.unusedVariables false
namespace Go.Proofs.Ytompaldhnbcikaa
open Go.RowKit Go.Shelf

section
variable {α : Type} {P : Program} {n : Nat}

/-- The iterator's contract: as the library's, but that the caller's word abides the iterator's own steps E. -/
def SeqE (n : Nat) (P : Program) (g : Nat) (lb : Array Value) (encs : α → Array Value) (Kp E : World → World → Prop) (S Sp : List α → Prop) (N : Nat) (w : World) : Prop :=
  ∀ (l : Nat) (J Jx : List α → World → Prop) (W : World), Below w.heap.size w W → (∀ pre A B, J pre A → E A B → J pre B) → (∀ pre A B, Jx pre A → E A B → Jx pre B) →
    (∀ pre x A, J pre A → pre.length < N → YieldAt Fence.wide (n - 1) P l (encs x) A fun e B => (e = .returned (.bool true) ∧ J (pre ++ [x]) B ∧ Kp A B) ∨ (e = .returned (.bool false) ∧ Jx (pre ++ [x]) B)) →
    J [] W → CallsIn Fence.wide n P g (#[.func (.yield l) #[] #[]] ++ lb) W fun e B => (∃ v, e = .returned v) ∧ ((∃ xs, S xs ∧ J xs B) ∨ (∃ pre, Sp pre ∧ Jx pre B))

/-- The two blocks that a loop's own book-keeping lays: the record at D + 1, the rounds' deferred calls at D. -/
def Book (D : Nat) (r : Loop) (W : World) : Prop := W.heap[D + 1]? = some (.loop r) ∧ W.heap[D]? = some (.deferred (some []))
theorem Book.put {D : Nat} {r : Loop} {W : World} (h : Book D r W) (r' : Loop) : Book D r' (W.putObj (D + 1) (.loop r')) :=
  ⟨World.putObj_heap_same (Array.getElem?_eq_some_iff.1 h.1).1, (World.putObj_heap_other (by omega)).trans h.2⟩
theorem Book.from {D B : Nat} {r : Loop} {W W' : World} (h : Book D r W) (hB : B ≤ D) (hk : KeepsFrom B W W') : Book D r W' := ⟨hk.same _ _ (by omega) h.1 rfl, hk.same _ _ hB h.2 rfl⟩

/-- How a round ends: it goes on, or it is left by a jump. -/
def jumpOf : Exit → Option Code
  | .ret => some .ret
  | .exit id => some (.exit id)
  | .goto t => some (.goto t)
  | _ => none

theorem round_end {D : Nat} {r : Loop} {W W' : World} (hb : Book D r W) (jump : Option Code) (hk : KeepsFrom D W W') :
    (Instr.endRound (D + 1) jump).run P W' = .ok (.bool jump.isNone) (W'.putObj (D + 1) (.loop { r with state := if jump.isNone then .ready else .done, pending := jump })) ∧
    W'.heap[D + 1]? = some (.loop r) ∧ Book D { r with state := if jump.isNone then .ready else .done, pending := jump } (W'.putObj (D + 1) (.loop { r with state := if jump.isNone then .ready else .done, pending := jump })) :=
  have hb' := hb.from (Nat.le_refl _) hk
  ⟨run_endRound jump hb'.1, hb'.1, hb'.put _⟩

theorem range_law {g : Operand} {ps : Array Tmp} {assign body : Code} {Q : Exit → Act → World → Prop} {a : Act} {w : World} (h1 : 1 ≤ n) {gf : Nat} {lb : Array Value} (hg : a.eval g = .func (.func gf) #[] lb)
    (eg : ∀ args w, (callFunc gf args).run P w = .ok (.enter gf args) w) {encs : α → Array Value} {Kp E : World → World → Prop} {S Sp : List α → Prop} {N : Nat} (hseq : SeqE (n - 1) P gf lb encs Kp E S Sp N w)
    (hKt : ∀ {A B C : World}, Kp A B → Kp B C → Kp A C) (hKb : ∀ (W : World) (l : Nat) (o o' : Obj), w.heap.size ≤ l → W.heap[l]? = some o → o.isCells = false → o.isWalk = false → Kp W (W.putObj l o'))
    (hE : ∀ A B, E A B → KeepsFrom w.heap.size A B) (hps : ∀ x, (encs x).size = ps.size)
    (I : List α → World → Prop) (Ix : Code → List α → World → Prop) (hI : OwnFrom w.heap.size I) (hIx : ∀ c, OwnFrom w.heap.size (Ix c)) (hIE : ∀ pre A B, I pre A → E A B → I pre B) (hIxE : ∀ c pre A B, Ix c pre A → E A B → Ix c pre B)
    (h0 : I [] w) (a₁ : α → Act)
    (hassign : ∀ (l : Nat) (x : α) (W : World) (K : Act → World → Prop), K (a₁ x) W →
      assign.wpIn (Fence.wide.inRound l) (n - 1 - 1) P (Exit.then K (fun _ _ _ => False)) { tmps := (ps.zip (encs x)).foldl (fun t (p, v) => t.setIfInBounds p v) a.tmps, defers := [] } W)
    (hbody : ∀ (l : Nat) (pre : List α) (x : α) (W : World), I pre W → pre.length < N → body.wpIn (Fence.wide.inRound l) (n - 1 - 1) P (ownPostG w.heap.size Kp I Ix (pre ++ [x]) W) (a₁ x) W)
    (hdone : ∀ (D : Nat) (xs : List α) (W : World), w.heap.size ≤ D → S xs → I xs W → W.heap[D]? = some (.deferred (some [])) → Q .normal { a with defers := { target := .collected D, args := #[] } :: a.defers } W)
    (hstop : ∀ (D : Nat) (c : Code) (pre : List α) (W : World), w.heap.size ≤ D → Sp pre → Ix c pre W → W.heap[D]? = some (.deferred (some [])) → c.wpIn Fence.wide n P Q { a with defers := { target := .collected D, args := #[] } :: a.defers } W) :
    (Code.rangeFunc g ps assign body).wpIn Fence.wide n P Q a w := by
  refine wpIn_rangeFunc fun fn _ => ?_
  generalize hD : w.heap.size = D at *
  let r : Loop := { state := .ready, pending := none, fn, tmps := a.tmps, params := ps, assign, body, defers := D }
  let w1 : World := (w.alloc (.deferred (some []))).alloc (.loop r)
  have bk1 : Book D r w1 := by
    refine ⟨?_, ?_⟩
    · have := World.alloc_heap_new (w.alloc (.deferred (some []))) (.loop r)
      rwa [World.size_alloc, hD] at this
    · have := World.alloc_heap_new w (.deferred (some []))
      rw [hD] at this
      exact (Below.heap_alloc _ _ _ (by simp; omega)).trans this
  have i1 : I [] w1 := hI.alloc _ (hI.alloc _ h0)
  have b1 : Below w.heap.size w w1 := ((Below.refl _ w).alloc (Nat.le_refl _) _).alloc (by simp) _
  refine ⟨D + 1, [{ target := .collected D, args := #[] }], w1, { target := .fn (.func gf) lb, args := #[.func (.yield (D + 1)) #[] #[]] }, w1, gf, #[.func (.yield (D + 1)) #[] #[]] ++ lb, w1, ?_, ?_, fun _ _ => trivial, ?_, fun _ => h1, ?_⟩
  · rw [← hD]
    have := run_enterLoop_outer (P := P) (w := w) fn a.tmps ps assign body
    simp only [w1, r, ← hD]
    exact this
  · simp only [resolve, hg]
    simp [go_sem]
  · simp [invoke, go_sem, eg]
  · refine (hseq (D + 1) (fun pre W => I pre W ∧ Book D r W) (fun pre W => ∃ c, Ix c pre W ∧ Book D { r with state := .done, pending := some c } W) w1 b1
      (fun pre A B h e => ⟨hIE pre A B h.1 e, h.2.from (Nat.le_refl _) (hE A B e)⟩)
      (fun pre A B h e => let ⟨c, hc, hb⟩ := h; ⟨c, hIxE c pre A B hc e, hb.from (Nat.le_refl _) (hE A B e)⟩) ?_ ⟨i1, bk1⟩).mono ?_
    · rintro pre x W ⟨hi, hb⟩ hlen
      refine ⟨fn, _, assign, body, run_yield hb.1 (hps x), roundIn_of_wpIn trivial (hassign _ x W _ ⟨_, run_beginRound hb.1 rfl, ?_⟩)⟩
      have hb2 := hb.put { r with state := .busy }
      have k2 : Kp W (W.putObj (D + 1) (.loop { r with state := .busy })) := hKb _ _ _ _ (by omega) hb.1 rfl rfl
      refine wpIn_mono (hbody _ pre x _ (hI.putObj _ hi (by omega) hb.1 rfl) hlen) fun e a3 W3 hp => ?_
      have left : ∀ c, KeepsFrom D (W.putObj (D + 1) (.loop { r with state := .busy })) W3 → Ix c (pre ++ [x]) W3 → ∃ v W4, (Instr.endRound (D + 1) (some c)).run P W3 = .ok v W4 ∧ ((Ending.returned v = .returned (.bool true) ∧ (I (pre ++ [x]) W4 ∧ Book D r W4) ∧ Kp W W4) ∨ (Ending.returned v = .returned (.bool false) ∧ ∃ c, Ix c (pre ++ [x]) W4 ∧ Book D { r with state := .done, pending := some c } W4)) := fun c hk hi3 => by
        obtain ⟨hr, hl, hb4⟩ := round_end (P := P) hb2 (some c) hk
        exact ⟨_, _, hr, .inr ⟨rfl, c, (hIx c).putObj _ hi3 (by omega) hl rfl, hb4⟩⟩
      cases e with
      | normal =>
        obtain ⟨hk, hkp, hi3⟩ := hp
        obtain ⟨hr, hl, hb4⟩ := round_end (P := P) hb2 none hk
        exact ⟨_, _, hr, .inl ⟨rfl, ⟨hI.putObj _ hi3 (by omega) hl rfl, hb4⟩, hKt (hKt k2 hkp) (hKb _ _ _ _ (by omega) hl rfl rfl)⟩⟩
      | ret => exact left _ hp.1 hp.2
      | exit id => exact left _ hp.1 hp.2
      | goto t => exact left _ hp.1 hp.2
      | panic _ => exact hp.elim
      | outgrown => exact hp.elim
    · rintro e W2 ⟨⟨v, rfl⟩, (⟨xs, hS, hi, hb⟩ | ⟨pre, hSp, c, hi, hb⟩)⟩
      · exact ⟨none, _, run_endLoop hb.1 (by simp [r]), hdone _ xs _ (Nat.le_refl _) hS (hI.putObj _ hi (by omega) hb.1 rfl) (hb.put _).2⟩
      · exact ⟨some c, _, run_endLoop hb.1 (by simp), hstop _ c pre _ (Nat.le_refl _) hSp ((hIx c).putObj _ hi (by omega) hb.1 rfl) (hb.put _).2⟩
end

end Go.Proofs.Ytompaldhnbcikaa

/- strings.SplitSeq at a blank: the pieces of a text, as long as they are asked. Own work; no statement. -/
set_option linter.unusedSimpArgs false
set_option linter.unusedVariables false
namespace Go.Proofs.Ytompaldhnbcikaa
open Go.RowKit Go.Shelf

attribute [local go_sem] Oper.semAt_some

/-- The pieces of a text between blanks. -/
def splitL : List UInt8 → List (List UInt8)
  | [] => [[]]
  | c :: r => if c = 32 then [] :: splitL r else
    match splitL r with
    | [] => [[c]]
    | x :: xs => (c :: x) :: xs

theorem splitL_ne (l : List UInt8) : splitL l ≠ [] := by
  cases l with
  | nil => simp [splitL]
  | cons c r =>
    simp only [splitL]
    split
    · simp
    · split <;> simp

theorem splitL_none : ∀ (l : List UInt8), Lib.indexByte l 32 = -1 → splitL l = [l]
  | [], _ => rfl
  | c :: r, h => by
    simp only [Lib.indexByte] at h
    by_cases hc : c = 32
    · subst hc; simp at h
    · have hc' : (c == 32) = false := by simp [hc]
      rw [hc'] at h
      simp only [Bool.false_eq_true, if_false] at h
      have hr : Lib.indexByte r 32 = -1 := by
        by_cases e : Lib.indexByte r 32 = -1
        · exact e
        · have e' : (Lib.indexByte r 32 == -1) = false := by simp [e]
          rw [e'] at h
          simp only [Bool.false_eq_true, if_false] at h
          have := Lib.indexByte_ge r 32
          omega
      simp only [splitL]
      rw [if_neg hc, splitL_none r hr]

theorem splitL_some : ∀ (l : List UInt8) (i : Nat), Lib.indexByte l 32 = i → i < l.length ∧ splitL l = l.take i :: splitL (l.drop (i + 1))
  | [], i, h => by simp [Lib.indexByte] at h
  | c :: r, i, h => by
    simp only [Lib.indexByte] at h
    by_cases hc : c = 32
    · subst hc
      simp at h
      have h0 : i = 0 := by omega
      subst h0
      simp [splitL]
    · have hc' : (c == 32) = false := by simp [hc]
      rw [hc'] at h
      simp only [Bool.false_eq_true, if_false] at h
      by_cases e : Lib.indexByte r 32 = -1
      · rw [e] at h; simp at h
      · have e' : (Lib.indexByte r 32 == -1) = false := by simp [e]
        rw [e'] at h
        simp only [Bool.false_eq_true, if_false] at h
        have := Lib.indexByte_ge r 32
        cases i with
        | zero => omega
        | succ i =>
          obtain ⟨h1, h2⟩ := splitL_some r i (by omega)
          refine ⟨by simp; omega, ?_⟩
          simp only [splitL]
          rw [if_neg hc, h2]
          simp

/-- A text that is not too long for any count. -/
abbrev Word : Type := { x : List UInt8 // x.length ≤ 1099511627776 }

/-- The three boxes that the sequence goes by. -/
def IsSplit (W : World) (b : Nat) (s : List UInt8) : Prop := Boxed W b 9 (.string ⟨s.toArray⟩) ∧ Boxed W (b + 1) 9 (.string ⟨#[32]⟩) ∧ Boxed W (b + 2) 3 (.int .i64 0)
def KeepsThree (b : Nat) (W W' : World) : Prop := W'.heap[b]? = W.heap[b]? ∧ W'.heap[b + 1]? = W.heap[b + 1]? ∧ W'.heap[b + 2]? = W.heap[b + 2]?
theorem keepsThree_t {b : Nat} {A B C : World} (h : KeepsThree b A B) (k : KeepsThree b B C) : KeepsThree b A C := ⟨k.1.trans h.1, k.2.1.trans h.2.1, k.2.2.trans h.2.2⟩
theorem keepsThree_b {b n : Nat} (hg : b + 2 < n) (W : World) (l : Nat) (o o' : Obj) (hl : n ≤ l) (h1 : W.heap[l]? = some o) (h2 : o.isCells = false) (h3 : o.isWalk = false) : KeepsThree b W (W.putObj l o') :=
  ⟨keepsRow_b (by omega) W l o o' hl h1 h2 h3, keepsRow_b (by omega) W l o o' hl h1 h2 h3, keepsRow_b hg W l o o' hl h1 h2 h3⟩
theorem IsSplit.keep {b : Nat} {W W' : World} {s : List UInt8} (h : IsSplit W b s) (k : KeepsThree b W W') : IsSplit W' b s := ⟨k.1.trans h.1, k.2.1.trans h.2.1, k.2.2.trans h.2.2⟩
theorem IsSplit.set {b : Nat} {W : World} {s : List UInt8} (h : IsSplit W b s) (s' : List UInt8) : IsSplit (W.setCell ⟨b, 0, none⟩ (.string ⟨s'.toArray⟩)) b s' :=
  ⟨h.1.set _, boxed_of_heap h.2.1 (Below.heap_setCell _ _ _ _ (show b + 1 ≠ b by omega)), boxed_of_heap h.2.2 (Below.heap_setCell _ _ _ _ (show b + 2 ≠ b by omega))⟩

def strLen (W : World) (b : Nat) : Nat := match W.cell? ⟨b, 0, none⟩ with | some (.string s) => s.size | _ => 0
theorem strLen_of {W : World} {b : Nat} {s : List UInt8} (h : IsSplit W b s) : strLen W b = s.length := by
  unfold strLen
  rw [h.1.cell]
  simp [ByteArray.size]

theorem extract_list (l : List UInt8) (i j : Nat) : (⟨l.toArray⟩ : ByteArray).extract i j = ⟨((l.drop i).take (j - i)).toArray⟩ := by
  apply ByteArray.ext
  simp [ByteArray.data_extract]
theorem extract_head (l : List UInt8) (i : Nat) : (⟨l.toArray⟩ : ByteArray).extract 0 i = ⟨(l.take i).toArray⟩ := by rw [extract_list]; simp
theorem extract_tail (l : List UInt8) (i j : Nat) (h : j = l.length) : (⟨l.toArray⟩ : ByteArray).extract i j = ⟨(l.drop i).toArray⟩ := by rw [extract_list, h, List.take_of_length_le (by simp)]

/-- The iterator's own steps: it writes its own variable, box b. -/
def Turns (b : Nat) (A B : World) : Prop := ∃ v, B = A.setCell ⟨b, 0, none⟩ v

end Go.Proofs.Ytompaldhnbcikaa

/- num's Decimal and Parse: a number in words. Own work; no statement. -/
set_option linter.unusedSimpArgs false
set_option linter.unusedVariables false
namespace Go.Proofs.Ytompaldhnbcikaa
open Go.RowKit Go.Shelf

/-- Is it a digit? -/
def digB (c : UInt8) : Bool := decide (48 ≤ c.toNat ∧ c.toNat ≤ 57)
/-- Digits' number, but no more than MaxSeq + 1. -/
def decTo : List UInt8 → Int → Int
  | [], n => n
  | c :: r, n => decTo r (min (n * 10 + ((c.toNat : Int) - 48)) 1048577)
/-- Digits' number, but no more than m + 1. -/
def decToM (m : Int) : List UInt8 → Int → Int
  | [], n => n
  | c :: r, n => decToM m r (min (n * 10 + ((c.toNat : Int) - 48)) (m + 1))
theorem decToM_eq : ∀ (l : List UInt8) (n : Int), decToM 1048576 l n = decTo l n
  | [], _ => rfl
  | _ :: l, _ => decToM_eq l _
theorem decToM_snoc (m : Int) : ∀ (l : List UInt8) (c : UInt8) (n : Int), decToM m (l ++ [c]) n = min (decToM m l n * 10 + ((c.toNat : Int) - 48)) (m + 1)
  | [], _, _ => rfl
  | _ :: l, c, _ => decToM_snoc m l c _
/-- Digits, at least one, without leading noughts. -/
def decOk (l : List UInt8) : Bool := !l.isEmpty && !(decide (1 < l.length) && l.head? == some 48) && l.all digB

theorem decTo_snoc : ∀ (l : List UInt8) (c : UInt8) (n : Int), decTo (l ++ [c]) n = min (decTo l n * 10 + ((c.toNat : Int) - 48)) 1048577
  | [], _, _ => rfl
  | _ :: l, c, _ => decTo_snoc l c _

theorem decTo_range : ∀ (l : List UInt8) (n : Int), (∀ c ∈ l, digB c = true) → 0 ≤ n → n ≤ 1048577 → 0 ≤ decTo l n ∧ decTo l n ≤ 1048577
  | [], n, _, h0, h1 => ⟨h0, h1⟩
  | c :: l, n, h, h0, h1 => by
    have hc := h c (by simp)
    simp only [digB, decide_eq_true_eq] at hc
    exact decTo_range l _ (fun d hd => h d (by simp [hd])) (by omega) (by omega)

theorem decToM_range {m : Int} (hm : 0 ≤ m) : ∀ (l : List UInt8) (n : Int), (∀ c ∈ l, digB c = true) → 0 ≤ n → n ≤ m + 1 → 0 ≤ decToM m l n ∧ decToM m l n ≤ m + 1
  | [], n, _, h0, h1 => ⟨h0, h1⟩
  | c :: l, n, h, h0, h1 => by
    have hc := h c (by simp)
    simp only [digB, decide_eq_true_eq] at hc
    exact decToM_range hm l _ (fun d hd => h d (by simp [hd])) (by omega) (by omega)

theorem take_snoc_byte (s : ByteArray) (k : Nat) (h : k < s.size) : s.data.toList.take (k + 1) = s.data.toList.take k ++ [s[k]] := by
  rw [List.take_succ_eq_append_getElem (by simpa using h)]; rfl

theorem decOk_long (s : ByteArray) (h1 : 1 < s.size) (h0 : s[0] = 48) : decOk s.data.toList = false := by
  have : s.data.toList.head? = some 48 := by
    rw [List.head?_eq_getElem?, List.getElem?_eq_getElem (by simpa using (show 0 < s.size by omega))]
    exact congrArg some h0
  have hl : 1 < s.data.toList.length := by simpa using h1
  simp only [decOk, this, hl]
  simp

theorem decOk_not (s : ByteArray) (k : Nat) (h : k < s.size) (hd : digB s[k] = false) : decOk s.data.toList = false := by
  have hm : s[k] ∈ s.data.toList := by
    have : s[k] = s.data.toList[k]'(by simpa using h) := rfl
    rw [this]
    exact List.getElem_mem _
  have : s.data.toList.all digB = false := by
    rw [List.all_eq_false]
    exact ⟨_, hm, by rw [hd]; simp⟩
  simp [decOk, this]

theorem decOk_yes (s : ByteArray) (h0 : 0 < s.size) (h1 : ¬ (1 < s.size ∧ s[0] = 48)) (hall : ∀ c ∈ s.data.toList, digB c = true) : decOk s.data.toList = true := by
  have hne : s.data.toList.isEmpty = false := by
    cases h : s.data.toList with
    | nil => have := Lib.size_eq s; rw [h] at this; simp at this; exact absurd h0 (by rw [this]; exact Nat.lt_irrefl 0)
    | cons _ _ => rfl
  have hh : (decide (1 < s.data.toList.length) && s.data.toList.head? == some 48) = false := by
    rw [Bool.and_eq_false_iff]
    by_cases hl : 1 < s.size
    · right
      rw [List.head?_eq_getElem?, List.getElem?_eq_getElem (by simpa using h0)]
      have : ¬ s[0] = 48 := fun e => h1 ⟨hl, e⟩
      rw [beq_eq_false_iff_ne]
      intro e
      exact this (Option.some.inj e)
    · left
      simp
      have : s.size = s.data.size := rfl
      omega
  have ha : s.data.toList.all digB = true := List.all_eq_true.2 hall
  simp only [decOk, hne, hh, ha]
  rfl

end Go.Proofs.Ytompaldhnbcikaa

/- vec's parseNumbers and Parse: a text as a vector. Own work; no statement. -/
set_option linter.unusedSimpArgs false
set_option linter.unusedVariables false
namespace Go.Proofs.Ytompaldhnbcikaa
open Go.RowKit Go.Shelf

attribute [local go_sem] Oper.semAt_some

/-- 'x = append(x, ..)' by way of x's box B, the rows all beyond the boxes: every other block below them is as it was. -/
theorem app_low {W w1 : World} {N n₁ B : Nat} {t e : TypeId} {v v' : Value} {k m : Nat} {xs ys : List Value} {tmp : Obj} (hv : Boxed W B t v) (hrow : W.ownsRow n₁ e 1 v k xs) (hn : n₁ ≤ W.heap.size) (hB : B < n₁) (hN : N ≤ B)
    (hown : w1.ownsRow n₁ e 1 v' m ys) (hgrow : (W.alloc tmp).grownBy w1 v.ownBlock) :
    Boxed w1 B t v ∧ Boxed (w1.setCell ⟨B, 0, none⟩ v') B t v' ∧ (w1.setCell ⟨B, 0, none⟩ v').ownsRow n₁ e 1 v' m ys ∧ KeepsOthers W (w1.setCell ⟨B, 0, none⟩ v') ∧ Below N W (w1.setCell ⟨B, 0, none⟩ v') ∧
      Hid (∀ b, b < n₁ → b ≠ B → (w1.setCell ⟨B, 0, none⟩ v').heap[b]? = W.heap[b]?) := by
  have hne : ∀ b, b < n₁ → some b ≠ v.ownBlock := fun b hb e' => by have := (hrow.lt b e'.symm).1; omega
  have hv1 : Boxed w1 B t v := (hv.alloc tmp).kept hgrow (hne B hB)
  have hoth : ∀ b, b < n₁ → b ≠ B → (w1.setCell ⟨B, 0, none⟩ v').heap[b]? = W.heap[b]? := fun b hb hbB => app_other hgrow b (by omega) (hne b hb) hbB
  refine ⟨hv1, hv1.set v', ownsRow_of_heap hown (fun k hk => Below.heap_setCell _ _ _ _ (fun e' => by have := (hown.lt k hk).1; have e2 : k = B := e'; omega)), ?_, ?_, hoth⟩
  · refine ((KeepsOthers.alloc W tmp).trans (KeepsOthers.of_grownBy hgrow fun j o ej hj => ?_)).trans (KeepsOthers.setCell _ _ _)
    rcases (hrow.alloc tmp).2 with ⟨rfl, _⟩ | ⟨g, cap, cur, rfl, _, hgb, _⟩
    · simp [Value.ownBlock] at ej
    · obtain rfl : g = j := by simpa [Value.ownBlock] using ej
      rw [hgb] at hj; cases hj; rfl
  · exact (((Below.refl N W).alloc (by omega) tmp).grown hgrow (by simp; omega) (fun j ej => by have := (hrow.lt j ej).1; omega)).setCell (p := ⟨B, 0, none⟩) hN v'

theorem boxed_new' {W : World} {b : Nat} {t : TypeId} {v : Value} (h : b = W.heap.size) : Boxed (W.alloc (.cells #[v] t)) b t v := h ▸ Boxed.new W t v

theorem one_set {W : World} {a : Nat} {u : Value} (k : Nat) (h : k ≠ a) : (W.setCell ⟨a, 0, none⟩ u).heap[k]? = W.heap[k]? := Below.heap_setCell _ _ _ _ h
theorem two_sets {W : World} {a b : Nat} {u v : Value} (k : Nat) (h1 : k ≠ a) (h2 : k ≠ b) : ((W.setCell ⟨a, 0, none⟩ u).setCell ⟨b, 0, none⟩ v).heap[k]? = W.heap[k]? := (one_set k h2).trans (one_set k h1)

/-- One word more: what is there, the last number, whether there was too much. -/
def stepW (st : List Int × Int × Bool) (x : List UInt8) : List Int × Int × Bool :=
  if 1048576 < decTo x 0 ∨ st.1.length = 8 then (st.1, decTo x 0, true) else (st.1 ++ [decTo x 0], decTo x 0, st.2.2)
def stOf (ws : List (List UInt8)) : List Int × Int × Bool := ws.foldl stepW ([], 0, false)
theorem stOf_snoc (ws : List (List UInt8)) (x : List UInt8) : stOf (ws ++ [x]) = stepW (stOf ws) x := by simp [stOf]
theorem stOf_len : ∀ (ws : List (List UInt8)), (stOf ws).1.length ≤ 8 := by
  have : ∀ (ws : List (List UInt8)) st, st.1.length ≤ 8 → (ws.foldl stepW st).1.length ≤ 8 := by
    intro ws
    induction ws with
    | nil => intro st h; exact h
    | cons x ws ih =>
      intro st h
      refine ih _ ?_
      unfold stepW
      split
      · exact h
      · simp; omega
  exact fun ws => this ws _ (by simp)
/-- Words as numbers, or why not: the vector and the error's number. -/
def parseN (ws : List (List UInt8)) : List Int × Int :=
  if ws.all decOk then (if (stOf ws).2.1 = 0 then ([], 2) else if (stOf ws).2.2 then ([], 4) else ((stOf ws).1, 0)) else ([], 2)

end Go.Proofs.Ytompaldhnbcikaa

/- vec's Parse: a text as a vector. Own work; no statement. -/
set_option linter.unusedSimpArgs false
set_option linter.unusedVariables false
namespace Go.Proofs.Ytompaldhnbcikaa
open Go.RowKit Go.Shelf

/-- What is between the brackets. -/
def innerL (s : List UInt8) : List UInt8 := Lib.trimSuffix (Lib.trimPrefix s [91]) [93]
def bracketB (s : List UInt8) : Bool := Lib.hasPrefix s [91] && Lib.hasSuffix (Lib.trimPrefix s [91]) [93]
/-- A text as a vector and the error's number. -/
def parseL (s : List UInt8) : List Int × Int := if bracketB s then (if innerL s = [] then ([], 0) else parseN (splitL (innerL s))) else ([], 2)

theorem trimPrefix_length (s p : List UInt8) : (Lib.trimPrefix s p).length ≤ s.length := by unfold Lib.trimPrefix; split <;> simp
theorem trimSuffix_length (s p : List UInt8) : (Lib.trimSuffix s p).length ≤ s.length := by unfold Lib.trimSuffix; split <;> simp

end Go.Proofs.Ytompaldhnbcikaa

/- rec's isKey, checkVal, Check: whether a record may be. Own work; no statement. -/
set_option linter.unusedSimpArgs false
set_option linter.unusedVariables false
namespace Go.Proofs.Ytompaldhnbcikaa
open Go.RowKit

/-- A record, as plain data. -/
structure RecD where
  site : Int
  seq : Int
  dep : List Int
  key : ByteArray
  val : ByteArray

/-- In the world w the value v reads as the record r. -/
def IsRec (w : World) (v : Value) (r : RecD) : Prop :=
  ∃ a cap, v = .agg #[.int .i64 r.site, .int .i64 r.seq, .slice a r.dep.length cap, .string r.key, .string r.val] ∧ IsNums .i64 w (.slice a r.dep.length cap) r.dep

theorem IsRec.below {w w' : World} {v : Value} {r : RecD} (h : IsRec w v r) (hb : Below w.heap.size w w') : IsRec w' v r := by
  obtain ⟨a, cap, rfl, hn⟩ := h
  exact ⟨a, cap, rfl, hn.below hb⟩

/-- A vector's slice, with its numbers' count. -/
theorem IsNums.form {k : IntKind} {w : World} {v : Value} {l : List Int} (h : IsNums k w v l) : ∃ a cap, v = .slice a l.length cap := by
  obtain ⟨a, cap, rfl, -, -⟩ := h
  exact ⟨a, cap, rfl⟩

def keyB (c : UInt8) : Bool := decide ((97 ≤ c.toNat ∧ c.toNat ≤ 122) ∨ (48 ≤ c.toNat ∧ c.toNat ≤ 57))
def isKeyL (l : List UInt8) : Bool := decide (1 ≤ l.length ∧ l.length ≤ 8) && l.all keyB
def valB (c : UInt8) : Bool := decide (33 ≤ c.toNat ∧ c.toNat ≤ 126)
def checkValL (l : List UInt8) : Int := if l.all valB then (if 16 < l.length then 4 else 0) else 2

theorem all_not {p : UInt8 → Bool} (s : ByteArray) (k : Nat) (h : k < s.size) (hd : p s[k] = false) : s.data.toList.all p = false := by
  have hm : s[k] ∈ s.data.toList := by
    have : s[k] = s.data.toList[k]'(by simpa using h) := rfl
    rw [this]
    exact List.getElem_mem _
  rw [List.all_eq_false]
  exact ⟨_, hm, by rw [hd]; simp⟩

theorem all_snoc {p : UInt8 → Bool} (s : ByteArray) (k : Nat) (h : k < s.size) (hall : ∀ c ∈ s.data.toList.take k, p c = true) (hd : p s[k] = true) : ∀ c ∈ s.data.toList.take (k + 1), p c = true := by
  intro c hc
  rw [take_snoc_byte s k h] at hc
  rcases List.mem_append.1 hc with hc | hc
  · exact hall c hc
  · rw [List.mem_singleton.1 hc]; exact hd

theorem all_end {p : UInt8 → Bool} (s : ByteArray) (k : Nat) (h : ¬ k < s.size) (hall : ∀ c ∈ s.data.toList.take k, p c = true) : s.data.toList.all p = true := by
  have e : s.data.toList.take k = s.data.toList := List.take_of_length_le (by rw [← Lib.size_eq]; omega)
  rw [e] at hall
  exact List.all_eq_true.2 hall

set_option maxHeartbeats 1000000 in
theorem isKey_calls (s : ByteArray) (w : World) (hs : s.size ≤ 1099511627776) :
    Calls Try.prog 37 #[.string s] w fun e w' => e = .returned (.bool (isKeyL s.data.toList)) ∧ w' = w := by
  obtain ⟨b, hb⟩ : ∃ b, isKeyL s.data.toList = b := ⟨_, rfl⟩
  rw [hb]
  unfold isKeyL at hb
  rw [← Lib.size_eq] at hb
  have Hb := hide hb
  clear hb
  by_cases h1 : (s.size : Int) < 1
  · have e : b = false := by rw [← Hb.out, decide_eq_false (by omega)]; rfl
    subst e
    go_enter Try.func37, Try.ntmps37
    go_wp2
    go_ret
    exact ⟨rfl, rfl⟩
  · by_cases h8 : 8 < (s.size : Int)
    · have e : b = false := by rw [← Hb.out, decide_eq_false (by omega)]; rfl
      subst e
      go_enter Try.func37, Try.ntmps37
      go_wp2
      go_ret
      exact ⟨rfl, rfl⟩
    · have e : s.data.toList.all keyB = b := by rw [← Hb.out, decide_eq_true (by omega)]; rfl
      clear Hb
      replace e := hide e
      go_enter Try.func37, Try.ntmps37
      go_wp2
      go_loop [15] (fun i => ∃ k : Nat, k ≤ s.size ∧ i = .int .i64 (k : Int) ∧ ∀ c ∈ s.data.toList.take k, keyB c = true) (fun i => s.size - (intOf i).toNat)
      case atStart => exact ⟨0, Nat.zero_le _, rfl, by simp⟩
      case round =>
        obtain ⟨k, hk, rfl, hall⟩ := hrel
        replace hall := hide hall
        by_cases hkl : k < s.size
        · have hlt : (k : Int) < (s.size : Int) := by omega
          cases hd : keyB s[k] with
          | true =>
            have hsn := hide (all_snoc s k hkl hall.out hd)
            unfold keyB at hd
            simp only [decide_eq_true_eq] at hd
            by_cases h97 : ((s[k].toNat : Nat) : Int) < 97
            · have h48 : ¬ ((s[k].toNat : Nat) : Int) < 48 := by omega
              have h57 : ¬ 57 < ((s[k].toNat : Nat) : Int) := by omega
              clear hd
              go_wp2
              exact ⟨⟨k + 1, by omega, by go_num, hsn.out⟩, by simp [intOf]; omega⟩
            · have h122 : ¬ 122 < ((s[k].toNat : Nat) : Int) := by omega
              clear hd
              go_wp2
              exact ⟨⟨k + 1, by omega, by go_num, hsn.out⟩, by simp [intOf]; omega⟩
          | false =>
            have e2 : b = false := by rw [← e.out]; exact all_not s k hkl hd
            subst e2
            unfold keyB at hd
            simp only [decide_eq_false_iff_not] at hd
            by_cases h97 : ((s[k].toNat : Nat) : Int) < 97
            · by_cases h48 : ((s[k].toNat : Nat) : Int) < 48
              · clear hd
                go_wp2
                go_ret
                exact ⟨rfl, rfl⟩
              · have h57 : 57 < ((s[k].toNat : Nat) : Int) := by omega
                clear hd
                go_wp2
                go_ret
                exact ⟨rfl, rfl⟩
            · have h122 : 122 < ((s[k].toNat : Nat) : Int) := by omega
              have h48 : ¬ ((s[k].toNat : Nat) : Int) < 48 := by omega
              have h57 : 57 < ((s[k].toNat : Nat) : Int) := by omega
              clear hd
              go_wp2
              go_ret
              exact ⟨rfl, rfl⟩
        · have e2 : b = true := by rw [← e.out]; exact all_end s k hkl hall.out
          subst e2
          go_wp2
          go_ret
          exact ⟨rfl, rfl⟩

set_option maxHeartbeats 1000000 in
theorem checkVal_calls (s : ByteArray) (w : World) (hs : s.size ≤ 1099511627776) :
    Calls Try.prog 38 #[.string s] w fun e w' => e = .returned (.int .i64 (checkValL s.data.toList)) ∧ w' = w := by
  obtain ⟨b, hb⟩ : ∃ b, checkValL s.data.toList = b := ⟨_, rfl⟩
  rw [hb]
  unfold checkValL at hb
  rw [← Lib.size_eq] at hb
  have Hb := hide hb
  clear hb
  go_enter Try.func38, Try.ntmps38
  go_wp2
  go_loop [6] (fun i => ∃ k : Nat, k ≤ s.size ∧ i = .int .i64 (k : Int) ∧ ∀ c ∈ s.data.toList.take k, valB c = true) (fun i => s.size - (intOf i).toNat)
  case atStart => exact ⟨0, Nat.zero_le _, rfl, by simp⟩
  case round =>
    obtain ⟨k, hk, rfl, hall⟩ := hrel
    replace hall := hide hall
    by_cases hkl : k < s.size
    · have hlt : (k : Int) < (s.size : Int) := by omega
      cases hd : valB s[k] with
      | true =>
        have hsn := hide (all_snoc s k hkl hall.out hd)
        unfold valB at hd
        simp only [decide_eq_true_eq] at hd
        have h33 : ¬ ((s[k].toNat : Nat) : Int) < 33 := by omega
        have h126 : ¬ 126 < ((s[k].toNat : Nat) : Int) := by omega
        clear hd
        go_wp2
        exact ⟨⟨k + 1, by omega, by go_num, hsn.out⟩, by simp [intOf]; omega⟩
      | false =>
        have e2 : b = 2 := by rw [← Hb.out, all_not s k hkl hd]; rfl
        subst e2
        unfold valB at hd
        simp only [decide_eq_false_iff_not] at hd
        by_cases h33 : ((s[k].toNat : Nat) : Int) < 33
        · clear hd
          go_wp2
          go_ret
          exact ⟨rfl, rfl⟩
        · have h126 : 126 < ((s[k].toNat : Nat) : Int) := by omega
          clear hd
          go_wp2
          go_ret
          exact ⟨rfl, rfl⟩
    · have e2 := Hb.out
      rw [all_end s k hkl hall.out, if_pos rfl] at e2
      by_cases h16 : 16 < (s.size : Int)
      · rw [if_pos (by omega)] at e2
        subst e2
        go_wp2
        go_ret
        exact ⟨rfl, rfl⟩
      · rw [if_neg (by omega)] at e2
        subst e2
        go_wp2
        go_ret
        exact ⟨rfl, rfl⟩

/-- As what Check tells of r: the number of the error. -/
def checkR (r : RecD) (s : Int) : Int :=
  if s < 1 ∨ 8 < s ∨ r.site < 0 ∨ s ≤ r.site ∨ r.seq < 1 ∨ 1048576 < r.seq then 1 else if checkL r.dep s = 0 then
    (if r.seq ≤ geti r.dep r.site then 13 else if isKeyL r.key.data.toList then checkValL r.val.data.toList else 3) else checkL r.dep s

theorem box_below (w : World) (o : Obj) : Below w.heap.size w (w.alloc o) := (Below.refl _ w).alloc (Nat.le_refl _) o

end Go.Proofs.Ytompaldhnbcikaa

/- rec's Check, Before, Same; the laws' Of and Few. Own work; no statement. -/
set_option linter.unusedSimpArgs false
set_option linter.unusedVariables false
namespace Go.Proofs.Ytompaldhnbcikaa
open Go.RowKit

set_option maxHeartbeats 2000000 in
theorem recCheck_calls (v : Value) (r : RecD) (s : Int) (w : World) (hv : IsRec w v r) (hl : r.dep.length ≤ 1099511627776) (hks : r.key.size ≤ 1099511627776) (hvs : r.val.size ≤ 1099511627776) :
    Calls Try.prog 28 #[v, .int .i64 s] w fun e w' => e = .returned (.int .i64 (checkR r s)) ∧ Below w.heap.size w w' := by
  obtain ⟨c, hc⟩ : ∃ c, checkR r s = c := ⟨_, rfl⟩
  rw [hc]
  unfold checkR at hc
  obtain ⟨site, seq, dep, key, val⟩ := r
  obtain ⟨a, cap, rfl, hn⟩ := hv
  dsimp only at *
  have HB := hide (box_below w (.cells #[.int .i64 site, .int .i64 seq, .slice a dep.length cap, .string key, .string val] 35))
  have Hn := hide (hn.below HB.out)
  have Hc := hide hc
  clear hn hc
  by_cases h0 : s < 1
  · have e : c = 1 := by rw [← Hc.out, if_pos (by omega)]
    subst e
    go_enter Try.func28, Try.ntmps28
    go_wp2
    go_ret
    exact ⟨rfl, HB.out⟩
  by_cases h1 : 8 < s
  · have e : c = 1 := by rw [← Hc.out, if_pos (by omega)]
    subst e
    go_enter Try.func28, Try.ntmps28
    go_wp2
    go_ret
    exact ⟨rfl, HB.out⟩
  by_cases h2 : site < 0
  · have e : c = 1 := by rw [← Hc.out, if_pos (by omega)]
    subst e
    go_enter Try.func28, Try.ntmps28
    go_wp2
    go_ret
    exact ⟨rfl, HB.out⟩
  by_cases h3 : s ≤ site
  · have e : c = 1 := by rw [← Hc.out, if_pos (by omega)]
    subst e
    go_enter Try.func28, Try.ntmps28
    go_wp2
    go_ret
    exact ⟨rfl, HB.out⟩
  by_cases h4 : seq < 1
  · have e : c = 1 := by rw [← Hc.out, if_pos (by omega)]
    subst e
    go_enter Try.func28, Try.ntmps28
    go_wp2
    go_ret
    exact ⟨rfl, HB.out⟩
  by_cases h5 : 1048576 < seq
  · have e : c = 1 := by rw [← Hc.out, if_pos (by omega)]
    subst e
    go_enter Try.func28, Try.ntmps28
    go_wp2
    go_ret
    exact ⟨rfl, HB.out⟩
  have e := Hc.out
  rw [if_neg (by omega)] at e
  clear Hc
  obtain ⟨q, hq⟩ : ∃ q, checkL dep s = q := ⟨_, rfl⟩
  rw [hq] at e
  replace e := hide e
  have Hq := hide hq
  clear hq
  by_cases hq0 : q = 0
  · have e1 := e.out
    rw [if_pos hq0] at e1
    subst hq0
    clear e
    replace e1 := hide e1
    obtain ⟨g, hg⟩ : ∃ g, geti dep site = g := ⟨_, rfl⟩
    have Hg := hide hg
    have HG := hide (fun n => get_calls _ dep site _ (Hn.out.below (below_draws n)) hl)
    rw [hg] at HG
    clear hg
    by_cases h13 : seq ≤ g
    · have e2 : c = 13 := by rw [← e1.out, Hg.out, if_pos h13]
      subst e2
      go_enter Try.func28, Try.ntmps28
      go_wp2_with (go_at_call 35; refine (check_calls _ dep s _ Hn.out hl).mono ?_; rintro e w' ⟨rfl, rfl⟩; rw [Hq.out])
      go_quiet (first | (go_at_call 36; refine Calls.quiet_of_same (HG.out _)))
      go_wp2
      go_ret
      exact ⟨rfl, HB.out.trans (below_draws _)⟩
    · have e2 := e1.out
      rw [Hg.out, if_neg h13] at e2
      clear e1
      replace e2 := hide e2
      obtain ⟨kb, hkb⟩ : ∃ kb, isKeyL key.data.toList = kb := ⟨_, rfl⟩
      obtain ⟨vb, hvb⟩ : ∃ vb, checkValL val.data.toList = vb := ⟨_, rfl⟩
      have Hkb := hide hkb
      have Hvb := hide hvb
      clear hkb hvb
      cases kb with
      | false =>
        have e3 : c = 3 := by rw [← e2.out, Hkb.out]; rfl
        subst e3
        go_enter Try.func28, Try.ntmps28
        go_wp2_with (go_at_call 35; refine (check_calls _ dep s _ Hn.out hl).mono ?_; rintro e w' ⟨rfl, rfl⟩; rw [Hq.out])
        go_quiet (first | (go_at_call 36; refine Calls.quiet_of_same (HG.out _)))
        go_wp2_with (go_at_call 37; refine (isKey_calls key _ hks).mono ?_; rintro e w' ⟨rfl, rfl⟩; rw [Hkb.out])
        go_ret
        exact ⟨rfl, HB.out.trans (below_draws _)⟩
      | true =>
        have e3 : c = vb := by rw [← e2.out, Hkb.out, Hvb.out]; rfl
        subst e3
        go_enter Try.func28, Try.ntmps28
        go_wp2_with (go_at_call 35; refine (check_calls _ dep s _ Hn.out hl).mono ?_; rintro e w' ⟨rfl, rfl⟩; rw [Hq.out])
        go_quiet (first | (go_at_call 36; refine Calls.quiet_of_same (HG.out _)))
        go_wp2_with (first | (go_at_call 37; refine (isKey_calls key _ hks).mono ?_; rintro e w' ⟨rfl, rfl⟩; rw [Hkb.out]) | (go_at_call 38; refine (checkVal_calls val _ hvs).mono ?_; rintro e w' ⟨rfl, rfl⟩; rw [Hvb.out]))
        go_ret
        exact ⟨rfl, HB.out.trans (below_draws _)⟩
  · have e1 := e.out
    rw [if_neg hq0] at e1
    subst e1
    clear e
    have hq1 : (q != 0) = true := by simp [hq0]
    clear hq0
    go_enter Try.func28, Try.ntmps28
    go_wp2_with (go_at_call 35; refine (check_calls _ dep s _ Hn.out hl).mono ?_; rintro e w' ⟨rfl, rfl⟩; rw [Hq.out])
    go_ret
    exact ⟨rfl, HB.out⟩

set_option maxHeartbeats 400000 in
theorem recOfLaw_calls (v : Value) (r : RecD) (w : World) (hv : IsRec w v r) :
    Calls Try.prog 14 #[v] w fun e w' => e = .returned v ∧ Below w.heap.size w w' := by
  obtain ⟨site, seq, dep, key, val⟩ := r
  obtain ⟨a, cap, rfl, hn⟩ := hv
  dsimp only at *
  clear hn
  go_enter Try.func14, Try.ntmps14
  go_wp2
  refine bodyPost_ret (v := .agg #[.int .i64 site, .int .i64 seq, .slice a dep.length cap, .string key, .string val]) (by simp [results, Try.f14, go_sem]) rfl ⟨rfl, (box_below _ _).alloc (by simp) _⟩

--has landau/landaulaw2.Few
def fewR (r : RecD) : Bool := decide (r.dep.length ≤ 70 ∧ r.key.size ≤ 50 ∧ r.val.size ≤ 50)
set_option maxHeartbeats 400000 in
theorem recFew_calls (v : Value) (r : RecD) (w : World) (hv : IsRec w v r) :
    Calls Try.prog 27 #[v] w fun e w' => e = .returned (.bool (fewR r)) ∧ Below w.heap.size w w' := by
  obtain ⟨b, hb⟩ : ∃ b, fewR r = b := ⟨_, rfl⟩
  rw [hb]
  unfold fewR at hb
  obtain ⟨site, seq, dep, key, val⟩ := r
  obtain ⟨a, cap, rfl, hn⟩ := hv
  dsimp only at *
  clear hn
  have Hb := hide hb
  clear hb
  by_cases h1 : (dep.length : Int) ≤ 70
  · by_cases h2 : (key.size : Int) ≤ 50
    · by_cases h3 : (val.size : Int) ≤ 50
      · have e : b = true := by rw [← Hb.out, decide_eq_true (by omega)]
        subst e
        go_enter Try.func27, Try.ntmps27
        go_wp2
        go_ret
        exact ⟨by simp [h3], box_below _ _⟩
      · have e : b = false := by rw [← Hb.out, decide_eq_false (by omega)]
        subst e
        go_enter Try.func27, Try.ntmps27
        go_wp2
        go_ret
        exact ⟨by simp [h3], box_below _ _⟩
    · have e : b = false := by rw [← Hb.out, decide_eq_false (by omega)]
      subst e
      go_enter Try.func27, Try.ntmps27
      go_wp2
      go_ret
      exact ⟨by simp, box_below _ _⟩
  · have e : b = false := by rw [← Hb.out, decide_eq_false (by omega)]
    subst e
    go_enter Try.func27, Try.ntmps27
    go_wp2
    go_ret
    exact ⟨by simp, box_below _ _⟩

end Go.Proofs.Ytompaldhnbcikaa

/- Slices of calls on a filter that came in: what they read as. Own work; no statement. -/
set_option linter.unusedSimpArgs false
set_option linter.unusedVariables false
namespace Go.Proofs.Ytompaldhnbcikaa
open Go.ChangeShapes Go.WideShapes Go.ChangeAt Go.RowKit Go.Deep

/-- A call on a filter. -/
structure ActF where
  op : Int
  n : Int
  r : RecD

def ActAtF (w : World) (b o : Nat) (x : ActF) : Prop := w.cell? ⟨b, o, none⟩ = some (.int .i64 x.op) ∧ w.cell? ⟨b, o + 1, none⟩ = some (.int .i64 x.n) ∧ w.cell? ⟨b, o + 2, none⟩ = some (.int .i64 x.r.site) ∧ w.cell? ⟨b, o + 3, none⟩ = some (.int .i64 x.r.seq) ∧ (∃ a cap, w.cell? ⟨b, o + 4, none⟩ = some (.slice a x.r.dep.length cap) ∧ IsNums .i64 w (.slice a x.r.dep.length cap) x.r.dep) ∧ w.cell? ⟨b, o + 5, none⟩ = some (.string x.r.key) ∧ w.cell? ⟨b, o + 6, none⟩ = some (.string x.r.val)
theorem ActAtF.below {w w' : World} {b o : Nat} {x : ActF} (h : ActAtF w b o x) (hb : Below w.heap.size w w') : ActAtF w' b o x := by
  have hlt : b < w.heap.size := World.block_lt_of_cell? w _ h.1
  obtain ⟨h0, h1, h2, h3, ⟨a, cap, h4, hn⟩, h5, h6⟩ := h
  exact ⟨(hb.cell (p := ⟨b, o, none⟩) hlt).trans h0, (hb.cell (p := ⟨b, o + 1, none⟩) hlt).trans h1, (hb.cell (p := ⟨b, o + 2, none⟩) hlt).trans h2, (hb.cell (p := ⟨b, o + 3, none⟩) hlt).trans h3, ⟨a, cap, (hb.cell (p := ⟨b, o + 4, none⟩) hlt).trans h4, hn.below hb⟩, (hb.cell (p := ⟨b, o + 5, none⟩) hlt).trans h5, (hb.cell (p := ⟨b, o + 6, none⟩) hlt).trans h6⟩
/-- In the world w the slice v reads as the calls l. -/
def IsActsF (w : World) (v : Value) (l : List ActF) : Prop := ∃ a cap, v = .slice a l.length cap ∧ ∀ t (h : t < l.length), ∃ b o, a = some ⟨b, o, none⟩ ∧ ActAtF w b (o + t * 7) l[t]
theorem IsActsF.below {w w' : World} {v : Value} {l : List ActF} (h : IsActsF w v l) (hb : Below w.heap.size w w') : IsActsF w' v l := by
  obtain ⟨a, cap, rfl, h⟩ := h
  exact ⟨a, cap, rfl, fun t ht => let ⟨b, o, e, hr⟩ := h t ht; ⟨b, o, e, hr.below hb⟩⟩
structure ActWfF (x : ActF) : Prop where
  op : (Lit.int .i64 x.op).wf = true
  n : (Lit.int .i64 x.n).wf = true
  site : (Lit.int .i64 x.r.site).wf = true
  seq : (Lit.int .i64 x.r.seq).wf = true
  dep : ∀ n ∈ x.r.dep, (Lit.int .i64 n).wf = true
  key : x.r.key.size ≤ maxLen
  val : x.r.val.size ≤ maxLen

set_option maxRecDepth 100000 in
theorem actF_cells {H : Type} {enc : TypeId × Value → H} {W : World} {base : Nat} {sp : Nat → Bool} {held : Bool} {fuel : Nat} {cs : List Value} {x : DataW H × List MemPlace} (h : DataW.trod enc Try.prog W base sp held fuel 37 cs = some x) (hsp : ∀ b, sp b = true) :
    ∃ (r : ActF) (a : Option Addr) (cap : Nat), cs = [.int .i64 r.op, .int .i64 r.n, .int .i64 r.r.site, .int .i64 r.r.seq, .slice a r.r.dep.length cap, .string r.r.key, .string r.r.val] ∧ IsNums .i64 W (.slice a r.r.dep.length cap) r.r.dep ∧ ActWfF r := by
  obtain ⟨xs, n, _, rfl, hl, hlen, hf⟩ := DataW.trod_struct Try.underlying37 h
  have hc : Try.prog.cellsOf 37 = 7 := by kernel_rfl
  have hcr : Try.prog.cellsOf 35 = 5 := by kernel_rfl
  have h3 : Try.prog.cellsOf 3 = 1 := by kernel_rfl
  have h4 : Try.prog.cellsOf 33 = 1 := by kernel_rfl
  have h5 : Try.prog.cellsOf 9 = 1 := by kernel_rfl
  rw [hc] at hl
  match cs, hl, xs, hlen with
  | [c0, c1, d0, d1, d2, d3, d4], _, [y0, y1, y2], _ =>
    have f0 := hf 0 _ rfl
    have f1 := hf 1 _ rfl
    have f2 := hf 2 _ rfl
    simp [h3, hcr] at f0 f1 f2
    obtain ⟨op, e0, -, w0⟩ := DataW.trod_int Try.underlying3 f0
    obtain ⟨n, e1, -, w1⟩ := DataW.trod_int Try.underlying3 f1
    simp at e0 e1
    subst e0 e1
    obtain ⟨xs2, n2, _, -, hl2, hlen2, hf2⟩ := DataW.trod_struct Try.underlying35 f2
    match xs2, hlen2 with
    | [z0, z1, z2, z3, z4], _ =>
      have g0 := hf2 0 _ rfl
      have g1 := hf2 1 _ rfl
      have g2 := hf2 2 _ rfl
      have g3 := hf2 3 _ rfl
      have g4 := hf2 4 _ rfl
      simp [h3, h4, h5] at g0 g1 g2 g3 g4
      obtain ⟨site, e0, -, w2⟩ := DataW.trod_int Try.underlying3 g0
      obtain ⟨seq, e1, -, w3⟩ := DataW.trod_int Try.underlying3 g1
      obtain ⟨key, e3, -, w4⟩ := DataW.trod_string Try.underlying9 g3
      obtain ⟨val, e4, -, w5⟩ := DataW.trod_string Try.underlying9 g4
      obtain ⟨a, len, cap, e2⟩ := Joins.slice_form Try.underlying33 g2
      simp at e0 e1 e2 e3 e4
      subst e0 e1 e2 e3 e4
      obtain ⟨dep, hn, wd⟩ := nums_of_open Try.underlying33 Try.underlying3 h3 g2 hsp
      obtain ⟨a', cap', hv, -, -⟩ := id hn
      simp only [Value.slice.injEq] at hv
      obtain ⟨rfl, rfl, rfl⟩ := hv
      exact ⟨⟨op, n, ⟨site, seq, dep, key, val⟩⟩, a, cap, rfl, hn, ⟨w0, w1, w2, w3, wd, w4, w5⟩⟩

set_option maxRecDepth 100000 in
theorem actsF_open {H : Type} {enc : TypeId × Value → H} {W : World} {base b0 : Nat} {sp : Nat → Bool} {held : Bool} {r : Reach} {v : Value} {d : DataW H} {p : List MemPlace} (hv : Value.okWide Try.prog W r b0 22 v) (h : DataW.Trod enc Try.prog W base sp held 22 v d p) (hsp : ∀ b, sp b = true) :
    ∃ l : List ActF, IsActsF W v l ∧ (∀ x ∈ l, ActWfF x) := by
  obtain ⟨a, len, cap, rfl⟩ := okWide_slice Try.underlying22 hv
  obtain ⟨fuel, hf⟩ := h
  have hc : Try.prog.cellsOf 37 = 7 := by kernel_rfl
  rcases open_slice Try.underlying22 hf with ⟨hcs, _⟩ | ⟨ad, len', cp, m, n', D, Pl, hcs, _, hlc, _, hm, hx, hat⟩
  · simp [Value.cells] at hcs
    obtain ⟨rfl, rfl, rfl⟩ := hcs
    exact ⟨[], ⟨none, 0, rfl, fun t ht => absurd ht (by simp)⟩, by simp⟩
  · simp [Value.cells] at hcs
    obtain ⟨rfl, rfl, rfl⟩ := hcs
    rw [hsp, if_pos rfl] at hm
    rw [hc] at hat
    have each : ∀ i, i < len → ∃ q : ActF × Option Addr × Nat, (W.cells? base (ad.add (i * 7)) 7 = some [.int .i64 q.1.op, .int .i64 q.1.n, .int .i64 q.1.r.site, .int .i64 q.1.r.seq, .slice q.2.1 q.1.r.dep.length q.2.2, .string q.1.r.key, .string q.1.r.val]) ∧ IsNums .i64 W (.slice q.2.1 q.1.r.dep.length q.2.2) q.1.r.dep ∧ ActWfF q.1 := by
      intro i hi
      obtain ⟨cs', h1, h2⟩ := hat i (by omega)
      obtain ⟨q, a, cap, e, hn, hw⟩ := actF_cells h2 hsp
      exact ⟨(q, a, cap), by rw [h1, e], hn, hw⟩
    have : Inhabited ActF := ⟨⟨0, 0, ⟨0, 0, [], ByteArray.empty, ByteArray.empty⟩⟩⟩
    obtain ⟨q, hq⟩ := choose_lt each
    have hlen : ((List.range len).map fun i => (q i).1).length = len := by simp
    refine ⟨(List.range len).map fun i => (q i).1, ⟨some ad, cap, by rw [hlen], fun t ht => ?_⟩, fun r hr => ?_⟩
    · rw [hlen] at ht
      obtain ⟨h1, h2, _⟩ := hq t ht
      obtain ⟨_, _, hcell⟩ := World.cells?_some h1
      obtain ⟨b, off, spot⟩ := ad
      have g0 := hcell 0 (by omega)
      have g1 := hcell 1 (by omega)
      have g2 := hcell 2 (by omega)
      have g3 := hcell 3 (by omega)
      have g4 := hcell 4 (by omega)
      have g5 := hcell 5 (by omega)
      have g6 := hcell 6 (by omega)
      rw [add_add] at g0 g1 g2 g3 g4 g5 g6
      simp only [List.getElem?_cons_zero, List.getElem?_cons_succ, List.getD, Option.getD_some, Nat.add_zero] at g0 g1 g2 g3 g4 g5 g6
      have hspot : spot = none := by
        obtain ⟨k1, _, _⟩ := hq 0 (by omega)
        obtain ⟨_, _, kcell⟩ := World.cells?_some k1
        have k0 := kcell 0 (by omega)
        rw [add_add] at k0
        simpa [Addr.add] using World.cell?_spot k0
      subst hspot
      rw [Go.WideShapes.add_plain] at g0 g1 g2 g3 g4 g5 g6
      refine ⟨b, off, rfl, ?_⟩
      rw [List.getElem_map, List.getElem_range]
      exact ⟨g0, by rw [Nat.add_assoc]; exact g1, by rw [Nat.add_assoc]; exact g2, by rw [Nat.add_assoc]; exact g3, ⟨(q t).2.1, (q t).2.2, by rw [Nat.add_assoc]; exact g4, h2⟩, by rw [Nat.add_assoc]; exact g5, by rw [Nat.add_assoc]; exact g6⟩
    · obtain ⟨i, hi, rfl⟩ := List.mem_map.1 hr
      exact (hq i (List.mem_range.1 hi)).2.2

end Go.Proofs.Ytompaldhnbcikaa

/- A range over a function that goes over a list which is known: the body is walked at the k-th element of it. Own work; no statement. -/
set_option linter.unusedSimpArgs false
set_option linter.unusedVariables false
namespace Go.Proofs.Ytompaldhnbcikaa
open Go.RowKit Go.Shelf

section
variable {α : Type} {P : Program} {n : Nat}

/-- The iterator's contract: it hands over xs, one by one, as long as it is asked. -/
def SeqL (n : Nat) (P : Program) (g : Nat) (lb : Array Value) (encs : α → Array Value) (Kp : World → World → Prop) (xs : List α) (w : World) : Prop :=
  ∀ (l : Nat) (J Jx : Nat → World → Prop) (W : World), Below w.heap.size w W →
    (∀ k (h : k < xs.length) A, J k A → YieldAt Fence.wide (n - 1) P l (encs xs[k]) A fun e C => (e = .returned (.bool true) ∧ J (k + 1) C ∧ Kp A C) ∨ (e = .returned (.bool false) ∧ Jx k C)) →
    J 0 W → CallsIn Fence.wide n P g (#[.func (.yield l) #[] #[]] ++ lb) W fun e B => (∃ v, e = .returned v) ∧ (J xs.length B ∨ ∃ k, k < xs.length ∧ Jx k B)

/-- How the body of a round may be left. -/
def postL (B : Nat) (Kp : World → World → Prop) (I : Nat → World → Prop) (Ix : Code → Nat → World → Prop) (k : Nat) (W : World) : Exit → Act → World → Prop
  | .normal, _, W' => KeepsFrom B W W' ∧ Kp W W' ∧ I (k + 1) W'
  | .ret, _, W' => KeepsFrom B W W' ∧ Ix .ret k W'
  | .exit id, _, W' => KeepsFrom B W W' ∧ Ix (.exit id) k W'
  | .goto t, _, W' => KeepsFrom B W W' ∧ Ix (.goto t) k W'
  | .panic _, _, _ => False
  | .outgrown, _, _ => False

theorem range_lawL {g : Operand} {ps : Array Tmp} {assign body : Code} {Q : Exit → Act → World → Prop} {a : Act} {w : World} (h1 : 1 ≤ n) {gf : Nat} {lb : Array Value} (hg : a.eval g = .func (.func gf) #[] lb)
    (eg : ∀ args w, (callFunc gf args).run P w = .ok (.enter gf args) w) {encs : α → Array Value} {Kp : World → World → Prop} {xs : List α} (hseq : SeqL (n - 1) P gf lb encs Kp xs w)
    (hKt : ∀ {A B C : World}, Kp A B → Kp B C → Kp A C) (hKb : ∀ (W : World) (l : Nat) (o o' : Obj), w.heap.size ≤ l → W.heap[l]? = some o → o.isCells = false → o.isWalk = false → Kp W (W.putObj l o'))
    (hps : ∀ x, (encs x).size = ps.size)
    (I : Nat → World → Prop) (Ix : Code → Nat → World → Prop) (hI : OwnFrom w.heap.size I) (hIx : ∀ c, OwnFrom w.heap.size (Ix c))
    (h0 : I 0 w) (a₁ : α → Act)
    (hassign : ∀ (l : Nat) (x : α) (W : World) (K : Act → World → Prop), K (a₁ x) W →
      assign.wpIn (Fence.wide.inRound l) (n - 1 - 1) P (Exit.then K (fun _ _ _ => False)) { tmps := (ps.zip (encs x)).foldl (fun t (p, v) => t.setIfInBounds p v) a.tmps, defers := [] } W)
    (hbody : ∀ (l k : Nat) (h : k < xs.length) (W : World), I k W → body.wpIn (Fence.wide.inRound l) (n - 1 - 1) P (postL w.heap.size Kp I Ix k W) (a₁ xs[k]) W)
    (hdone : ∀ (D : Nat) (W : World), w.heap.size ≤ D → I xs.length W → W.heap[D]? = some (.deferred (some [])) → Q .normal { a with defers := { target := .collected D, args := #[] } :: a.defers } W)
    (hstop : ∀ (D : Nat) (c : Code) (k : Nat) (W : World), w.heap.size ≤ D → k < xs.length → Ix c k W → W.heap[D]? = some (.deferred (some [])) → c.wpIn Fence.wide n P Q { a with defers := { target := .collected D, args := #[] } :: a.defers } W) :
    (Code.rangeFunc g ps assign body).wpIn Fence.wide n P Q a w := by
  refine wpIn_rangeFunc fun fn _ => ?_
  generalize hD : w.heap.size = D at *
  let r : Loop := { state := .ready, pending := none, fn, tmps := a.tmps, params := ps, assign, body, defers := D }
  let w1 : World := (w.alloc (.deferred (some []))).alloc (.loop r)
  have bk1 : Book D r w1 := by
    refine ⟨?_, ?_⟩
    · have := World.alloc_heap_new (w.alloc (.deferred (some []))) (.loop r)
      rwa [World.size_alloc, hD] at this
    · have := World.alloc_heap_new w (.deferred (some []))
      rw [hD] at this
      exact (Below.heap_alloc _ _ _ (by simp; omega)).trans this
  have i1 : I 0 w1 := hI.alloc _ (hI.alloc _ h0)
  have b1 : Below w.heap.size w w1 := ((Below.refl _ w).alloc (Nat.le_refl _) _).alloc (by simp) _
  refine ⟨D + 1, [{ target := .collected D, args := #[] }], w1, { target := .fn (.func gf) lb, args := #[.func (.yield (D + 1)) #[] #[]] }, w1, gf, #[.func (.yield (D + 1)) #[] #[]] ++ lb, w1, ?_, ?_, fun _ _ => trivial, ?_, fun _ => h1, ?_⟩
  · rw [← hD]
    have := run_enterLoop_outer (P := P) (w := w) fn a.tmps ps assign body
    simp only [w1, r, ← hD]
    exact this
  · simp only [resolve, hg]
    simp [go_sem]
  · simp [invoke, go_sem, eg]
  · refine (hseq (D + 1) (fun k W => I k W ∧ Book D r W) (fun k W => ∃ c, Ix c k W ∧ Book D { r with state := .done, pending := some c } W) w1 b1 ?_ ⟨i1, bk1⟩).mono ?_
    · rintro k hk W ⟨hi, hb⟩
      refine ⟨fn, _, assign, body, run_yield hb.1 (hps xs[k]), roundIn_of_wpIn trivial (hassign _ xs[k] W _ ⟨_, run_beginRound hb.1 rfl, ?_⟩)⟩
      have hb2 := hb.put { r with state := .busy }
      have k2 : Kp W (W.putObj (D + 1) (.loop { r with state := .busy })) := hKb _ _ _ _ (by omega) hb.1 rfl rfl
      refine wpIn_mono (hbody _ k hk _ (hI.putObj _ hi (by omega) hb.1 rfl)) fun e a3 W3 hp => ?_
      have left : ∀ c, KeepsFrom D (W.putObj (D + 1) (.loop { r with state := .busy })) W3 → Ix c k W3 → ∃ v W4, (Instr.endRound (D + 1) (some c)).run P W3 = .ok v W4 ∧ ((Ending.returned v = .returned (.bool true) ∧ (I (k + 1) W4 ∧ Book D r W4) ∧ Kp W W4) ∨ (Ending.returned v = .returned (.bool false) ∧ ∃ c, Ix c k W4 ∧ Book D { r with state := .done, pending := some c } W4)) := fun c hk' hi3 => by
        obtain ⟨hr, hl, hb4⟩ := round_end (P := P) hb2 (some c) hk'
        exact ⟨_, _, hr, .inr ⟨rfl, c, (hIx c).putObj _ hi3 (by omega) hl rfl, hb4⟩⟩
      cases e with
      | normal =>
        obtain ⟨hk', hkp, hi3⟩ := hp
        obtain ⟨hr, hl, hb4⟩ := round_end (P := P) hb2 none hk'
        exact ⟨_, _, hr, .inl ⟨rfl, ⟨hI.putObj _ hi3 (by omega) hl rfl, hb4⟩, hKt (hKt k2 hkp) (hKb _ _ _ _ (by omega) hl rfl rfl)⟩⟩
      | ret => exact left _ hp.1 hp.2
      | exit id => exact left _ hp.1 hp.2
      | goto t => exact left _ hp.1 hp.2
      | panic _ => exact hp.elim
      | outgrown => exact hp.elim
    · rintro e W2 ⟨⟨v, rfl⟩, (⟨hi, hb⟩ | ⟨k, hk, c, hi, hb⟩)⟩
      · exact ⟨none, _, run_endLoop hb.1 (by simp [r]), hdone _ _ (Nat.le_refl _) (hI.putObj _ hi (by omega) hb.1 rfl) (hb.put _).2⟩
      · exact ⟨some c, _, run_endLoop hb.1 (by simp), hstop _ c k _ (Nat.le_refl _) hk ((hIx c).putObj _ hi (by omega) hb.1 rfl) (hb.put _).2⟩
end

end Go.Proofs.Ytompaldhnbcikaa
