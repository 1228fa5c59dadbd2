/- Own work: the parts W7, W8, W9, Range, W11, W12, W13, W14, R1, W10, W15, Plain, T0, R2, R3, R4 of the proof, laid together. -/
import Derived.Test.YtdkpbfigjdmfpaaPartTokenChain1
import Derived.Test.YtdkpbfigjdmfpaaShelf
import Derived.Laws.BytesArg
import Derived.Lib.ItoaLen
import Derived.Lib.AppendIntMem
import Derived.Lib.UnsafeStr
import Derived.RangeFuncNested
import Derived.RangeFuncBound
import Derived.RangeFuncCalls
import Derived.RangeFuncLeaves
import Derived.Shelf.Abstract
import Derived.Shelf.RegionOpen
import Derived.OwnWalkIn
import Derived.TacticsInMore
import Derived.LoopNIn
import Derived.LoopIn
import Derived.Maps.OwnIn
import Derived.Lib.Bytealg
import Derived.Deep.RegionWith
import Derived.StillTailTactics
import Derived.Laws.Concat
import Derived.Lib.QuietBelow
/- The walk of vec's Text: a vector in words. Own work; no statement. -/
set_option linter.unusedSimpArgs false
set_option linter.unusedVariables false
namespace Go.Proofs.Ytdkpbfigjdmfpaa
open Go.RowKit

theorem conv_row {P : Program} {w : World} {base n : Nat} {e src dst : TypeId} {v : Value} {bs : List UInt8} (h : w.ownsRow base e 1 v n (Lib.byteCells bs))
    (hs : P.underlying src = some (.slice e)) (he : P.underlying e = some (.int .u8)) (hd : P.underlying dst = some .string) : (convert src dst v).run P w = .ok (.string ⟨bs.toArray⟩) w := by
  have hn : bs.length = n := by simpa [Lib.byteCells] using h.1
  have e1 : strOfNums (bs.map fun b => (b.toNat : Int)) = ⟨bs.toArray⟩ := by
    have : (bs.map fun b => (b.toNat : Int)).map (fun n => UInt8.ofNat n.toNat) = bs := by
      rw [List.map_map]
      conv => rhs; rw [← List.map_id bs]
      apply List.map_congr_left
      intro b _
      simp
    unfold strOfNums
    rw [this]
  rcases h.2 with ⟨rfl, rfl⟩ | ⟨g, cap, cur, rfl, hb, hg, hnc, hcm, hcs, ht⟩
  · obtain rfl : bs = [] := List.eq_nil_of_length_eq_zero hn
    exact run_convert_bytes_nil w src e hs he 0 0 dst hd
  · rw [← e1]
    refine run_convert_bytes_arg w src e hs he g 0 n cap _ (by simpa using hn) (fun i hi => ?_) dst hd
    rw [Nat.zero_add, h.cellAt i (by omega)]
    simp [Lib.byteCells, List.getD, show i < bs.length by omega]

/-- The library's table of powers of ten lies where it lay, in this world and in all that come out of it. -/
def Pow (w : World) : Prop := Lib.TabBelow Try.prog w.heap.size w "internal/strconv.uint64pow10" .u64 Lib.pow10Tab
theorem Pow.below {w w' : World} (h : Pow w) (hb : Below w.heap.size w w') : Pow w' := fun w2 h2 => h w2 (hb.trans (h2.mono hb.size))

/-- The numbers are such as an int holds. -/
def InR (l : List Int) : Prop := ∀ x ∈ l, -9223372036854775808 ≤ x ∧ x ≤ 9223372036854775807

/-- The first k numbers in words, with blanks between. -/
def numsTo (l : List Int) : Nat → List UInt8
  | 0 => []
  | k + 1 => numsTo l k ++ ((if k = 0 then [] else [32]) ++ Lib.itoa (l.getD k 0))
/-- A vector in words. -/
def textL (l : List Int) : List UInt8 := 91 :: (numsTo l (writtenL l) ++ [93])

theorem getD_inR {l : List Int} (h : InR l) (k : Nat) : -9223372036854775808 ≤ l.getD k 0 ∧ l.getD k 0 ≤ 9223372036854775807 := by
  by_cases hk : k < l.length
  · rw [List.getD, List.getElem?_eq_getElem hk]
    exact h _ (List.getElem_mem hk)
  · rw [List.getD, List.getElem?_eq_none (by omega)]
    simp

theorem numsTo_length {l : List Int} (h : InR l) : ∀ k, (numsTo l k).length ≤ 22 * k
  | 0 => by simp [numsTo]
  | k + 1 => by
    have h1 := numsTo_length h k
    have h2 := Lib.itoa_length_le (l.getD k 0) (getD_inR h k).1 (getD_inR h k).2
    have h3 : ((if k = 0 then [] else [32] : List UInt8)).length ≤ 1 := by split <;> simp
    simp only [numsTo, List.length_append]
    omega

theorem snoc93 (l : List UInt8) : Lib.byteCells l ++ [.int .u8 93] = Lib.byteCells (l ++ [93]) := by simp [Lib.byteCells]
theorem snoc32 (l : List UInt8) : Lib.byteCells l ++ [.int .u8 32] = Lib.byteCells (l ++ [32]) := by simp [Lib.byteCells]

theorem Try.info5 : (Try.prog.info? 5).map (fun i => (i.zero, i.size, i.bytes)) = some (some (.int .u8 0), 1, 1) := by kernel_rfl

theorem written_nil : ((writtenL [] : Nat) : Int) = 0 := rfl

end Go.Proofs.Ytdkpbfigjdmfpaa

/- vec's All: the range over a vector's sites, by its contract; Sum, which goes over it. Own work; no statement. -/
set_option linter.unusedSimpArgs false
set_option linter.unusedVariables false
namespace Go.Proofs.Ytdkpbfigjdmfpaa
open Go.RowKit Go.Shelf

attribute [local go_sem] Oper.semAt_some

/-- The sites below k that are not nothing, with their numbers. -/
def pairsTo (l : List Int) : Nat → List (Int × Int)
  | 0 => []
  | k + 1 => pairsTo l k ++ (if l.getD k 0 = 0 then [] else [((k : Int), l.getD k 0)])

theorem pairsTo_length (l : List Int) : ∀ k, (pairsTo l k).length ≤ k
  | 0 => by simp [pairsTo]
  | k + 1 => by
    have := pairsTo_length l k
    simp only [pairsTo, List.length_append]
    split <;> simp <;> omega

theorem pairsTo_skip (l : List Int) (k : Nat) (x : Int) (hx : l.getD k 0 = x) (h : x = 0) : pairsTo l (k + 1) = pairsTo l k := by simp only [pairsTo]; rw [if_pos (hx.trans h)]; simp
theorem pairsTo_take (l : List Int) (k : Nat) (x : Int) (hx : l.getD k 0 = x) (h : ¬ x = 0) : pairsTo l (k + 1) = pairsTo l k ++ [((k : Int), x)] := by simp only [pairsTo]; rw [if_neg (by rw [hx]; exact h), hx]

/-- Bs is the box of what All goes over: a row of its own, g, with the numbers l. -/
def IsAll (w : World) (Bs g : Nat) (l : List Int) : Prop :=
  g < w.heap.size ∧ Bs < w.heap.size ∧ w.cell? ⟨Bs, 0, none⟩ = some (.slice (some ⟨g, 0, none⟩) l.length l.length) ∧ ∀ t, t < l.length → w.cell? ⟨g, t, none⟩ = some (.int .i64 (l.getD t 0))

theorem IsAll.below {w w' : World} {Bs g : Nat} {l : List Int} (h : IsAll w Bs g l) (hb : Below w.heap.size w w') : IsAll w' Bs g l :=
  ⟨Nat.lt_of_lt_of_le h.1 hb.size, Nat.lt_of_lt_of_le h.2.1 hb.size, (hb.cell (p := ⟨Bs, 0, none⟩) h.2.1).trans h.2.2.1, fun t ht => (hb.cell (p := ⟨g, t, none⟩) h.1).trans (h.2.2.2 t ht)⟩

/-- What a round of a loop over All must keep: the row of the numbers. -/
def KeepsRow (g : Nat) (W W' : World) : Prop := W'.heap[g]? = W.heap[g]?
theorem keepsRow_t {g : Nat} {A B C : World} (h : KeepsRow g A B) (k : KeepsRow g B C) : KeepsRow g A C := Eq.trans k h
theorem keepsRow_b {g n : Nat} (hg : g < n) (W : World) (l : Nat) (o o' : Obj) (hl : n ≤ l) (_ : W.heap[l]? = some o) (_ : o.isCells = false) (_ : o.isWalk = false) : KeepsRow g W (W.putObj l o') := by
  unfold KeepsRow World.putObj
  simp only [Array.getElem?_setIfInBounds]
  rw [if_neg (by omega)]

theorem KeepsRow.cell {g t : Nat} {W W' : World} (h : KeepsRow g W W') : W'.cell? ⟨g, t, none⟩ = W.cell? ⟨g, t, none⟩ := World.cell?_of_block (w := W) (a := ⟨g, t, none⟩) h

/-- The numbers together, as an int adds them. -/
def sumW (ps : List (Int × Int)) : Int := ps.foldl (fun s p => wrap64 (s + p.2)) 0
theorem sumW_snoc (ps : List (Int × Int)) (x : Int × Int) : sumW (ps ++ [x]) = wrap64 (sumW ps + x.2) := by simp [sumW]

end Go.Proofs.Ytdkpbfigjdmfpaa

/- Memory laws for rows and boxes side by side; Sum in plain numbers; the laws' Pairs. Own work; no statement. -/
set_option linter.unusedSimpArgs false
set_option linter.unusedVariables false
namespace Go.Proofs.Ytdkpbfigjdmfpaa
open Go.RowKit Go.Shelf

attribute [local go_sem] Oper.semAt_some

theorem ownsRow_slice {W : World} {base : Nat} {e : TypeId} {size : Nat} {v : Value} {n : Nat} {xs : List Value} (h : W.ownsRow base e size v n xs) : ∃ a cap, v = .slice a n cap := by
  rcases h.2 with ⟨rfl, rfl⟩ | ⟨g, cap, cur, rfl, _⟩
  · exact ⟨_, _, rfl⟩
  · exact ⟨_, _, rfl⟩
theorem ownsRow_of_heap {W W' : World} {base : Nat} {e : TypeId} {size : Nat} {v : Value} {n : Nat} {xs : List Value} (h : W.ownsRow base e size v n xs) (hk : ∀ k, v.ownBlock = some k → W'.heap[k]? = W.heap[k]?) : W'.ownsRow base e size v n xs := by
  refine ⟨h.1, ?_⟩
  rcases h.2 with hn | ⟨g, cap, cur, rfl, hb, hgg, rest⟩
  · exact .inl hn
  · exact .inr ⟨g, cap, cur, rfl, hb, (hk g rfl).trans hgg, rest⟩
theorem ownsRow_low {W : World} {B B' : Nat} {e : TypeId} {size : Nat} {v : Value} {n : Nat} {xs : List Value} (h : W.ownsRow B e size v n xs) (hB : B' ≤ B) : W.ownsRow B' e size v n xs := by
  refine ⟨h.1, ?_⟩
  rcases h.2 with hn | ⟨g, cap, cur, rfl, hb, rest⟩
  · exact .inl hn
  · exact .inr ⟨g, cap, cur, rfl, Nat.le_trans hB hb, rest⟩
theorem boxed_of_heap {W W' : World} {B : Nat} {t : TypeId} {v : Value} (h : Boxed W B t v) (hk : W'.heap[B]? = W.heap[B]?) : Boxed W' B t v := hk.trans h
/-- Behind 'x = append(x, ..)' by way of x's box B: every other block is as it was. -/
theorem app_other {W w1 : World} {tmp : Obj} {row : Option Nat} {B : Nat} {v' : Value} (hgrow : (W.alloc tmp).grownBy w1 row) (k : Nat) (hk : k < W.heap.size) (hne : some k ≠ row) (hB : k ≠ B) : (w1.setCell ⟨B, 0, none⟩ v').heap[k]? = W.heap[k]? :=
  (Below.heap_setCell _ _ _ _ hB).trans ((hgrow.block k (by simp; omega) hne).trans (Below.heap_alloc _ _ _ hk))
theorem own_keeps {X Y : World} {row : Option Nat} (hg : X.grownBy Y row) (hrow : ∀ r, row = some r → ∃ o : Obj, X.heap[r]? = some o ∧ o.isCells = false) {k : Nat} {c : Array Value} {t : TypeId} {fr : Nat × Nat} (h : X.heap[k]? = some (.cells c t fr)) : Y.heap[k]? = X.heap[k]? := by
  refine hg.block k (Array.getElem?_eq_some_iff.1 h).1 (fun e => ?_)
  obtain ⟨o, ho, hc⟩ := hrow k e.symm
  rw [h] at ho
  cases ho
  cases hc
theorem boxed_own' {X Y : World} {row : Option Nat} (hg : X.grownBy Y row) (hrow : ∀ r, row = some r → ∃ o : Obj, X.heap[r]? = some o ∧ o.isCells = false) {B : Nat} {t : TypeId} {v : Value} (h : Boxed X B t v) : Boxed Y B t v := (own_keeps hg hrow h).trans h
theorem ownsRow_own' {X Y : World} {row : Option Nat} (hg : X.grownBy Y row) (hrow : ∀ r, row = some r → ∃ o : Obj, X.heap[r]? = some o ∧ o.isCells = false) {base : Nat} {e : TypeId} {size : Nat} {v : Value} {n : Nat} {xs : List Value} (h : X.ownsRow base e size v n xs) : Y.ownsRow base e size v n xs := by
  refine ownsRow_of_heap h (fun k hk => ?_)
  rcases h.2 with ⟨rfl, _⟩ | ⟨g, cap, cur, rfl, hb, hgg, rest⟩
  · cases hk
  · obtain rfl : g = k := by simpa [Value.ownBlock] using hk
    exact own_keeps hg hrow hgg

/-- Two boxes side by side, each with a slice that owns a row of its own, and the rows are two. -/
def Two (W : World) (n₀ : Nat) (t e : TypeId) (c c' : Nat) (v v' : Value) (n n' : Nat) (xs ys : List Value) : Prop :=
  Boxed W c t v ∧ Boxed W c' t v' ∧ W.ownsRow n₀ e 1 v n xs ∧ W.ownsRow n₀ e 1 v' n' ys ∧ ∀ k, v.ownBlock = some k → v'.ownBlock ≠ some k
theorem Two.symm {W : World} {n₀ : Nat} {t e : TypeId} {c c' : Nat} {v v' : Value} {n n' : Nat} {xs ys : List Value} (h : Two W n₀ t e c c' v v' n n' xs ys) : Two W n₀ t e c' c v' v n' n ys xs :=
  ⟨h.2.1, h.1, h.2.2.2.1, h.2.2.1, fun k h1 h2 => h.2.2.2.2 k h2 h1⟩
theorem Two.own {X Y : World} {row : Option Nat} (hg : X.grownBy Y row) (hrow : ∀ r, row = some r → ∃ o : Obj, X.heap[r]? = some o ∧ o.isCells = false) {n₀ : Nat} {t e : TypeId} {c c' : Nat} {v v' : Value} {n n' : Nat} {xs ys : List Value} (h : Two X n₀ t e c c' v v' n n' xs ys) : Two Y n₀ t e c c' v v' n n' xs ys :=
  ⟨boxed_own' hg hrow h.1, boxed_own' hg hrow h.2.1, ownsRow_own' hg hrow h.2.2.1, ownsRow_own' hg hrow h.2.2.2.1, h.2.2.2.2⟩
/-- 'x = append(x, y)', x the one of the two. -/
theorem Two.app {W w1 : World} {n₀ : Nat} {t e : TypeId} {c c' : Nat} {v v' u : Value} {n n' m : Nat} {xs ys zs : List Value} {tmp : Obj} (h : Two W n₀ t e c c' v v' n n' xs ys) (hte : t ≠ e) (hcc : c ≠ c') (hn₀ : n₀ ≤ W.heap.size) (hc : n₀ ≤ c)
    (hown : w1.ownsRow n₀ e 1 u m zs) (hgrow : (W.alloc tmp).grownBy w1 v.ownBlock) (hat : u.ownBlock = v.ownBlock ∨ u.ownBlock = some (W.alloc tmp).heap.size) :
    Boxed w1 c t v ∧ Two (w1.setCell ⟨c, 0, none⟩ u) n₀ t e c c' u v' m n' zs ys ∧ KeepsOthers W (w1.setCell ⟨c, 0, none⟩ u) ∧ Below n₀ W (w1.setCell ⟨c, 0, none⟩ u) ∧ W.heap.size ≤ w1.heap.size ∧
      Hid (∀ b t' z, Boxed W b t' z → t' ≠ e → b ≠ c → Boxed (w1.setCell ⟨c, 0, none⟩ u) b t' z) := by
  obtain ⟨ba, bb, ra, rb, hap⟩ := h
  obtain ⟨h1, h2, h3, h4, h5⟩ := ba.appended hte ra hn₀ hc hown hgrow
  refine ⟨h1, ⟨h2, boxed_of_heap bb (app_other hgrow c' bb.lt (bb.not_row hte ra) (fun e => hcc e.symm)), h3, ownsRow_of_heap rb (fun k hk => app_other hgrow k (rb.lt k hk).2 (fun e => hap k e.symm hk) (fun e => ba.not_row hte rb (by rw [hk, e]))), fun k h6 h7 => ?_⟩, h4, h5, ?_, fun b t' z hb ht hbc => boxed_of_heap hb (app_other hgrow b hb.lt (hb.not_row ht ra) hbc)⟩
  case refine_2 => have := hgrow.size; simp at this; omega
  rcases hat with e | e
  · exact hap k (e ▸ h6) h7
  · have := (rb.lt k h7).2
    rw [h6] at e
    simp at e
    omega
/-- The numbers that All tells, added: those of the vector. -/
theorem sum_pairsTo (l : List Int) (h : ∀ x ∈ l, 0 ≤ x ∧ x ≤ 1099511627776) (hl : l.length ≤ 1048576) : ∀ k, k ≤ l.length → sumW (pairsTo l k) = (l.take k).sum ∧ 0 ≤ (l.take k).sum ∧ (l.take k).sum ≤ 1099511627776 * k
  | 0, _ => by simp [pairsTo, sumW]
  | k + 1, hk => by
    obtain ⟨h1, h2, h3⟩ := sum_pairsTo l h hl k (by omega)
    have hx := h (l.getD k 0) (by rw [List.getD, List.getElem?_eq_getElem (by omega)]; exact List.getElem_mem _)
    have hs : (l.take (k + 1)).sum = (l.take k).sum + l.getD k 0 := by rw [take_snoc_getD l k (by omega)]; simp
    have hk3 : (1099511627776 : Int) * ((k + 1 : Nat) : Int) = 1099511627776 * (k : Int) + 1099511627776 := by omega
    rw [hs, hk3]
    refine ⟨?_, by omega, by omega⟩
    simp only [pairsTo]
    split
    · rename_i h0
      rw [List.append_nil, h1, h0]
      omega
    · rw [sumW_snoc, h1]
      unfold wrap64
      omega

end Go.Proofs.Ytdkpbfigjdmfpaa

/- A range over a function whose iterator keeps a variable of its own in memory: what it does between two rounds is told by a relation E, which the caller's invariant must abide. Own work; no statement. -/
set_option linter.unusedSimpArgs false
set_option linter.unusedVariables false
namespace Go.Proofs.Ytdkpbfigjdmfpaa
open Go.RowKit Go.Shelf

section
variable {α : Type} {P : Program} {n : Nat}

/-- The iterator's contract: as the library's, but that the caller's word abides the iterator's own steps E. -/
def SeqE (n : Nat) (P : Program) (g : Nat) (lb : Array Value) (encs : α → Array Value) (Kp E : World → World → Prop) (S Sp : List α → Prop) (N : Nat) (w : World) : Prop :=
  ∀ (l : Nat) (J Jx : List α → World → Prop) (W : World), Below w.heap.size w W → (∀ pre A B, J pre A → E A B → J pre B) → (∀ pre A B, Jx pre A → E A B → Jx pre B) →
    (∀ pre x A, J pre A → pre.length < N → YieldAt Fence.wide (n - 1) P l (encs x) A fun e B => (e = .returned (.bool true) ∧ J (pre ++ [x]) B ∧ Kp A B) ∨ (e = .returned (.bool false) ∧ Jx (pre ++ [x]) B)) →
    J [] W → CallsIn Fence.wide n P g (#[.func (.yield l) #[] #[]] ++ lb) W fun e B => (∃ v, e = .returned v) ∧ ((∃ xs, S xs ∧ J xs B) ∨ (∃ pre, Sp pre ∧ Jx pre B))

/-- The two blocks that a loop's own book-keeping lays: the record at D + 1, the rounds' deferred calls at D. -/
def Book (D : Nat) (r : Loop) (W : World) : Prop := W.heap[D + 1]? = some (.loop r) ∧ W.heap[D]? = some (.deferred (some []))
theorem Book.put {D : Nat} {r : Loop} {W : World} (h : Book D r W) (r' : Loop) : Book D r' (W.putObj (D + 1) (.loop r')) :=
  ⟨World.putObj_heap_same (Array.getElem?_eq_some_iff.1 h.1).1, (World.putObj_heap_other (by omega)).trans h.2⟩
theorem Book.from {D B : Nat} {r : Loop} {W W' : World} (h : Book D r W) (hB : B ≤ D) (hk : KeepsFrom B W W') : Book D r W' := ⟨hk.same _ _ (by omega) h.1 rfl, hk.same _ _ hB h.2 rfl⟩

/-- How a round ends: it goes on, or it is left by a jump. -/
def jumpOf : Exit → Option Code
  | .ret => some .ret
  | .exit id => some (.exit id)
  | .goto t => some (.goto t)
  | _ => none

theorem round_end {D : Nat} {r : Loop} {W W' : World} (hb : Book D r W) (jump : Option Code) (hk : KeepsFrom D W W') :
    (Instr.endRound (D + 1) jump).run P W' = .ok (.bool jump.isNone) (W'.putObj (D + 1) (.loop { r with state := if jump.isNone then .ready else .done, pending := jump })) ∧
    W'.heap[D + 1]? = some (.loop r) ∧ Book D { r with state := if jump.isNone then .ready else .done, pending := jump } (W'.putObj (D + 1) (.loop { r with state := if jump.isNone then .ready else .done, pending := jump })) :=
  have hb' := hb.from (Nat.le_refl _) hk
  ⟨run_endRound jump hb'.1, hb'.1, hb'.put _⟩

theorem range_law {g : Operand} {ps : Array Tmp} {assign body : Code} {Q : Exit → Act → World → Prop} {a : Act} {w : World} (h1 : 1 ≤ n) {gf : Nat} {lb : Array Value} (hg : a.eval g = .func (.func gf) #[] lb)
    (eg : ∀ args w, (callFunc gf args).run P w = .ok (.enter gf args) w) {encs : α → Array Value} {Kp E : World → World → Prop} {S Sp : List α → Prop} {N : Nat} (hseq : SeqE (n - 1) P gf lb encs Kp E S Sp N w)
    (hKt : ∀ {A B C : World}, Kp A B → Kp B C → Kp A C) (hKb : ∀ (W : World) (l : Nat) (o o' : Obj), w.heap.size ≤ l → W.heap[l]? = some o → o.isCells = false → o.isWalk = false → Kp W (W.putObj l o'))
    (hE : ∀ A B, E A B → KeepsFrom w.heap.size A B) (hps : ∀ x, (encs x).size = ps.size)
    (I : List α → World → Prop) (Ix : Code → List α → World → Prop) (hI : OwnFrom w.heap.size I) (hIx : ∀ c, OwnFrom w.heap.size (Ix c)) (hIE : ∀ pre A B, I pre A → E A B → I pre B) (hIxE : ∀ c pre A B, Ix c pre A → E A B → Ix c pre B)
    (h0 : I [] w) (a₁ : α → Act)
    (hassign : ∀ (l : Nat) (x : α) (W : World) (K : Act → World → Prop), K (a₁ x) W →
      assign.wpIn (Fence.wide.inRound l) (n - 1 - 1) P (Exit.then K (fun _ _ _ => False)) { tmps := (ps.zip (encs x)).foldl (fun t (p, v) => t.setIfInBounds p v) a.tmps, defers := [] } W)
    (hbody : ∀ (l : Nat) (pre : List α) (x : α) (W : World), I pre W → pre.length < N → body.wpIn (Fence.wide.inRound l) (n - 1 - 1) P (ownPostG w.heap.size Kp I Ix (pre ++ [x]) W) (a₁ x) W)
    (hdone : ∀ (D : Nat) (xs : List α) (W : World), w.heap.size ≤ D → S xs → I xs W → W.heap[D]? = some (.deferred (some [])) → Q .normal { a with defers := { target := .collected D, args := #[] } :: a.defers } W)
    (hstop : ∀ (D : Nat) (c : Code) (pre : List α) (W : World), w.heap.size ≤ D → Sp pre → Ix c pre W → W.heap[D]? = some (.deferred (some [])) → c.wpIn Fence.wide n P Q { a with defers := { target := .collected D, args := #[] } :: a.defers } W) :
    (Code.rangeFunc g ps assign body).wpIn Fence.wide n P Q a w := by
  refine wpIn_rangeFunc fun fn _ => ?_
  generalize hD : w.heap.size = D at *
  let r : Loop := { state := .ready, pending := none, fn, tmps := a.tmps, params := ps, assign, body, defers := D }
  let w1 : World := (w.alloc (.deferred (some []))).alloc (.loop r)
  have bk1 : Book D r w1 := by
    refine ⟨?_, ?_⟩
    · have := World.alloc_heap_new (w.alloc (.deferred (some []))) (.loop r)
      rwa [World.size_alloc, hD] at this
    · have := World.alloc_heap_new w (.deferred (some []))
      rw [hD] at this
      exact (Below.heap_alloc _ _ _ (by simp; omega)).trans this
  have i1 : I [] w1 := hI.alloc _ (hI.alloc _ h0)
  have b1 : Below w.heap.size w w1 := ((Below.refl _ w).alloc (Nat.le_refl _) _).alloc (by simp) _
  refine ⟨D + 1, [{ target := .collected D, args := #[] }], w1, { target := .fn (.func gf) lb, args := #[.func (.yield (D + 1)) #[] #[]] }, w1, gf, #[.func (.yield (D + 1)) #[] #[]] ++ lb, w1, ?_, ?_, fun _ _ => trivial, ?_, fun _ => h1, ?_⟩
  · rw [← hD]
    have := run_enterLoop_outer (P := P) (w := w) fn a.tmps ps assign body
    simp only [w1, r, ← hD]
    exact this
  · simp only [resolve, hg]
    simp [go_sem]
  · simp [invoke, go_sem, eg]
  · refine (hseq (D + 1) (fun pre W => I pre W ∧ Book D r W) (fun pre W => ∃ c, Ix c pre W ∧ Book D { r with state := .done, pending := some c } W) w1 b1
      (fun pre A B h e => ⟨hIE pre A B h.1 e, h.2.from (Nat.le_refl _) (hE A B e)⟩)
      (fun pre A B h e => let ⟨c, hc, hb⟩ := h; ⟨c, hIxE c pre A B hc e, hb.from (Nat.le_refl _) (hE A B e)⟩) ?_ ⟨i1, bk1⟩).mono ?_
    · rintro pre x W ⟨hi, hb⟩ hlen
      refine ⟨fn, _, assign, body, run_yield hb.1 (hps x), roundIn_of_wpIn trivial (hassign _ x W _ ⟨_, run_beginRound hb.1 rfl, ?_⟩)⟩
      have hb2 := hb.put { r with state := .busy }
      have k2 : Kp W (W.putObj (D + 1) (.loop { r with state := .busy })) := hKb _ _ _ _ (by omega) hb.1 rfl rfl
      refine wpIn_mono (hbody _ pre x _ (hI.putObj _ hi (by omega) hb.1 rfl) hlen) fun e a3 W3 hp => ?_
      have left : ∀ c, KeepsFrom D (W.putObj (D + 1) (.loop { r with state := .busy })) W3 → Ix c (pre ++ [x]) W3 → ∃ v W4, (Instr.endRound (D + 1) (some c)).run P W3 = .ok v W4 ∧ ((Ending.returned v = .returned (.bool true) ∧ (I (pre ++ [x]) W4 ∧ Book D r W4) ∧ Kp W W4) ∨ (Ending.returned v = .returned (.bool false) ∧ ∃ c, Ix c (pre ++ [x]) W4 ∧ Book D { r with state := .done, pending := some c } W4)) := fun c hk hi3 => by
        obtain ⟨hr, hl, hb4⟩ := round_end (P := P) hb2 (some c) hk
        exact ⟨_, _, hr, .inr ⟨rfl, c, (hIx c).putObj _ hi3 (by omega) hl rfl, hb4⟩⟩
      cases e with
      | normal =>
        obtain ⟨hk, hkp, hi3⟩ := hp
        obtain ⟨hr, hl, hb4⟩ := round_end (P := P) hb2 none hk
        exact ⟨_, _, hr, .inl ⟨rfl, ⟨hI.putObj _ hi3 (by omega) hl rfl, hb4⟩, hKt (hKt k2 hkp) (hKb _ _ _ _ (by omega) hl rfl rfl)⟩⟩
      | ret => exact left _ hp.1 hp.2
      | exit id => exact left _ hp.1 hp.2
      | goto t => exact left _ hp.1 hp.2
      | panic _ => exact hp.elim
      | outgrown => exact hp.elim
    · rintro e W2 ⟨⟨v, rfl⟩, (⟨xs, hS, hi, hb⟩ | ⟨pre, hSp, c, hi, hb⟩)⟩
      · exact ⟨none, _, run_endLoop hb.1 (by simp [r]), hdone _ xs _ (Nat.le_refl _) hS (hI.putObj _ hi (by omega) hb.1 rfl) (hb.put _).2⟩
      · exact ⟨some c, _, run_endLoop hb.1 (by simp), hstop _ c pre _ (Nat.le_refl _) hSp ((hIx c).putObj _ hi (by omega) hb.1 rfl) (hb.put _).2⟩
end

end Go.Proofs.Ytdkpbfigjdmfpaa

/- strings.SplitSeq at a blank: the pieces of a text, as long as they are asked. Own work; no statement. -/
set_option linter.unusedSimpArgs false
set_option linter.unusedVariables false
namespace Go.Proofs.Ytdkpbfigjdmfpaa
open Go.RowKit Go.Shelf

attribute [local go_sem] Oper.semAt_some

/-- The pieces of a text between blanks. -/
def splitL : List UInt8 → List (List UInt8)
  | [] => [[]]
  | c :: r => if c = 32 then [] :: splitL r else
    match splitL r with
    | [] => [[c]]
    | x :: xs => (c :: x) :: xs

theorem splitL_ne (l : List UInt8) : splitL l ≠ [] := by
  cases l with
  | nil => simp [splitL]
  | cons c r =>
    simp only [splitL]
    split
    · simp
    · split <;> simp

theorem splitL_none : ∀ (l : List UInt8), Lib.indexByte l 32 = -1 → splitL l = [l]
  | [], _ => rfl
  | c :: r, h => by
    simp only [Lib.indexByte] at h
    by_cases hc : c = 32
    · subst hc; simp at h
    · have hc' : (c == 32) = false := by simp [hc]
      rw [hc'] at h
      simp only [Bool.false_eq_true, if_false] at h
      have hr : Lib.indexByte r 32 = -1 := by
        by_cases e : Lib.indexByte r 32 = -1
        · exact e
        · have e' : (Lib.indexByte r 32 == -1) = false := by simp [e]
          rw [e'] at h
          simp only [Bool.false_eq_true, if_false] at h
          have := Lib.indexByte_ge r 32
          omega
      simp only [splitL]
      rw [if_neg hc, splitL_none r hr]

theorem splitL_some : ∀ (l : List UInt8) (i : Nat), Lib.indexByte l 32 = i → i < l.length ∧ splitL l = l.take i :: splitL (l.drop (i + 1))
  | [], i, h => by simp [Lib.indexByte] at h
  | c :: r, i, h => by
    simp only [Lib.indexByte] at h
    by_cases hc : c = 32
    · subst hc
      simp at h
      have h0 : i = 0 := by omega
      subst h0
      simp [splitL]
    · have hc' : (c == 32) = false := by simp [hc]
      rw [hc'] at h
      simp only [Bool.false_eq_true, if_false] at h
      by_cases e : Lib.indexByte r 32 = -1
      · rw [e] at h; simp at h
      · have e' : (Lib.indexByte r 32 == -1) = false := by simp [e]
        rw [e'] at h
        simp only [Bool.false_eq_true, if_false] at h
        have := Lib.indexByte_ge r 32
        cases i with
        | zero => omega
        | succ i =>
          obtain ⟨h1, h2⟩ := splitL_some r i (by omega)
          refine ⟨by simp; omega, ?_⟩
          simp only [splitL]
          rw [if_neg hc, h2]
          simp

/-- A text that is not too long for any count. -/
abbrev Word : Type := { x : List UInt8 // x.length ≤ 1099511627776 }

/-- The three boxes that the sequence goes by. -/
def IsSplit (W : World) (b : Nat) (s : List UInt8) : Prop := Boxed W b 9 (.string ⟨s.toArray⟩) ∧ Boxed W (b + 1) 9 (.string ⟨#[32]⟩) ∧ Boxed W (b + 2) 3 (.int .i64 0)
def KeepsThree (b : Nat) (W W' : World) : Prop := W'.heap[b]? = W.heap[b]? ∧ W'.heap[b + 1]? = W.heap[b + 1]? ∧ W'.heap[b + 2]? = W.heap[b + 2]?
theorem keepsThree_t {b : Nat} {A B C : World} (h : KeepsThree b A B) (k : KeepsThree b B C) : KeepsThree b A C := ⟨k.1.trans h.1, k.2.1.trans h.2.1, k.2.2.trans h.2.2⟩
theorem keepsThree_b {b n : Nat} (hg : b + 2 < n) (W : World) (l : Nat) (o o' : Obj) (hl : n ≤ l) (h1 : W.heap[l]? = some o) (h2 : o.isCells = false) (h3 : o.isWalk = false) : KeepsThree b W (W.putObj l o') :=
  ⟨keepsRow_b (by omega) W l o o' hl h1 h2 h3, keepsRow_b (by omega) W l o o' hl h1 h2 h3, keepsRow_b hg W l o o' hl h1 h2 h3⟩
theorem IsSplit.keep {b : Nat} {W W' : World} {s : List UInt8} (h : IsSplit W b s) (k : KeepsThree b W W') : IsSplit W' b s := ⟨k.1.trans h.1, k.2.1.trans h.2.1, k.2.2.trans h.2.2⟩
theorem IsSplit.set {b : Nat} {W : World} {s : List UInt8} (h : IsSplit W b s) (s' : List UInt8) : IsSplit (W.setCell ⟨b, 0, none⟩ (.string ⟨s'.toArray⟩)) b s' :=
  ⟨h.1.set _, boxed_of_heap h.2.1 (Below.heap_setCell _ _ _ _ (show b + 1 ≠ b by omega)), boxed_of_heap h.2.2 (Below.heap_setCell _ _ _ _ (show b + 2 ≠ b by omega))⟩

def strLen (W : World) (b : Nat) : Nat := match W.cell? ⟨b, 0, none⟩ with | some (.string s) => s.size | _ => 0
theorem strLen_of {W : World} {b : Nat} {s : List UInt8} (h : IsSplit W b s) : strLen W b = s.length := by
  unfold strLen
  rw [h.1.cell]
  simp [ByteArray.size]

theorem extract_list (l : List UInt8) (i j : Nat) : (⟨l.toArray⟩ : ByteArray).extract i j = ⟨((l.drop i).take (j - i)).toArray⟩ := by
  apply ByteArray.ext
  simp [ByteArray.data_extract]
theorem extract_head (l : List UInt8) (i : Nat) : (⟨l.toArray⟩ : ByteArray).extract 0 i = ⟨(l.take i).toArray⟩ := by rw [extract_list]; simp
theorem extract_tail (l : List UInt8) (i j : Nat) (h : j = l.length) : (⟨l.toArray⟩ : ByteArray).extract i j = ⟨(l.drop i).toArray⟩ := by rw [extract_list, h, List.take_of_length_le (by simp)]

/-- The iterator's own steps: it writes its own variable, box b. -/
def Turns (b : Nat) (A B : World) : Prop := ∃ v, B = A.setCell ⟨b, 0, none⟩ v

end Go.Proofs.Ytdkpbfigjdmfpaa

/- num's Decimal and Parse: a number in words. Own work; no statement. -/
set_option linter.unusedSimpArgs false
set_option linter.unusedVariables false
namespace Go.Proofs.Ytdkpbfigjdmfpaa
open Go.RowKit Go.Shelf

/-- Is it a digit? -/
def digB (c : UInt8) : Bool := decide (48 ≤ c.toNat ∧ c.toNat ≤ 57)
/-- Digits' number, but no more than MaxSeq + 1. -/
def decTo : List UInt8 → Int → Int
  | [], n => n
  | c :: r, n => decTo r (min (n * 10 + ((c.toNat : Int) - 48)) 1048577)
/-- Digits' number, but no more than m + 1. -/
def decToM (m : Int) : List UInt8 → Int → Int
  | [], n => n
  | c :: r, n => decToM m r (min (n * 10 + ((c.toNat : Int) - 48)) (m + 1))
theorem decToM_eq : ∀ (l : List UInt8) (n : Int), decToM 1048576 l n = decTo l n
  | [], _ => rfl
  | _ :: l, _ => decToM_eq l _
theorem decToM_snoc (m : Int) : ∀ (l : List UInt8) (c : UInt8) (n : Int), decToM m (l ++ [c]) n = min (decToM m l n * 10 + ((c.toNat : Int) - 48)) (m + 1)
  | [], _, _ => rfl
  | _ :: l, c, _ => decToM_snoc m l c _
/-- Digits, at least one, without leading noughts. -/
def decOk (l : List UInt8) : Bool := !l.isEmpty && !(decide (1 < l.length) && l.head? == some 48) && l.all digB

theorem decTo_snoc : ∀ (l : List UInt8) (c : UInt8) (n : Int), decTo (l ++ [c]) n = min (decTo l n * 10 + ((c.toNat : Int) - 48)) 1048577
  | [], _, _ => rfl
  | _ :: l, c, _ => decTo_snoc l c _

theorem decTo_range : ∀ (l : List UInt8) (n : Int), (∀ c ∈ l, digB c = true) → 0 ≤ n → n ≤ 1048577 → 0 ≤ decTo l n ∧ decTo l n ≤ 1048577
  | [], n, _, h0, h1 => ⟨h0, h1⟩
  | c :: l, n, h, h0, h1 => by
    have hc := h c (by simp)
    simp only [digB, decide_eq_true_eq] at hc
    exact decTo_range l _ (fun d hd => h d (by simp [hd])) (by omega) (by omega)

theorem decToM_range {m : Int} (hm : 0 ≤ m) : ∀ (l : List UInt8) (n : Int), (∀ c ∈ l, digB c = true) → 0 ≤ n → n ≤ m + 1 → 0 ≤ decToM m l n ∧ decToM m l n ≤ m + 1
  | [], n, _, h0, h1 => ⟨h0, h1⟩
  | c :: l, n, h, h0, h1 => by
    have hc := h c (by simp)
    simp only [digB, decide_eq_true_eq] at hc
    exact decToM_range hm l _ (fun d hd => h d (by simp [hd])) (by omega) (by omega)

theorem take_snoc_byte (s : ByteArray) (k : Nat) (h : k < s.size) : s.data.toList.take (k + 1) = s.data.toList.take k ++ [s[k]] := by
  rw [List.take_succ_eq_append_getElem (by simpa using h)]; rfl

theorem decOk_long (s : ByteArray) (h1 : 1 < s.size) (h0 : s[0] = 48) : decOk s.data.toList = false := by
  have : s.data.toList.head? = some 48 := by
    rw [List.head?_eq_getElem?, List.getElem?_eq_getElem (by simpa using (show 0 < s.size by omega))]
    exact congrArg some h0
  have hl : 1 < s.data.toList.length := by simpa using h1
  simp only [decOk, this, hl]
  simp

theorem decOk_not (s : ByteArray) (k : Nat) (h : k < s.size) (hd : digB s[k] = false) : decOk s.data.toList = false := by
  have hm : s[k] ∈ s.data.toList := by
    have : s[k] = s.data.toList[k]'(by simpa using h) := rfl
    rw [this]
    exact List.getElem_mem _
  have : s.data.toList.all digB = false := by
    rw [List.all_eq_false]
    exact ⟨_, hm, by rw [hd]; simp⟩
  simp [decOk, this]

theorem decOk_yes (s : ByteArray) (h0 : 0 < s.size) (h1 : ¬ (1 < s.size ∧ s[0] = 48)) (hall : ∀ c ∈ s.data.toList, digB c = true) : decOk s.data.toList = true := by
  have hne : s.data.toList.isEmpty = false := by
    cases h : s.data.toList with
    | nil => have := Lib.size_eq s; rw [h] at this; simp at this; exact absurd h0 (by rw [this]; exact Nat.lt_irrefl 0)
    | cons _ _ => rfl
  have hh : (decide (1 < s.data.toList.length) && s.data.toList.head? == some 48) = false := by
    rw [Bool.and_eq_false_iff]
    by_cases hl : 1 < s.size
    · right
      rw [List.head?_eq_getElem?, List.getElem?_eq_getElem (by simpa using h0)]
      have : ¬ s[0] = 48 := fun e => h1 ⟨hl, e⟩
      rw [beq_eq_false_iff_ne]
      intro e
      exact this (Option.some.inj e)
    · left
      simp
      have : s.size = s.data.size := rfl
      omega
  have ha : s.data.toList.all digB = true := List.all_eq_true.2 hall
  simp only [decOk, hne, hh, ha]
  rfl

end Go.Proofs.Ytdkpbfigjdmfpaa

/- vec's parseNumbers and Parse: a text as a vector. Own work; no statement. -/
set_option linter.unusedSimpArgs false
set_option linter.unusedVariables false
namespace Go.Proofs.Ytdkpbfigjdmfpaa
open Go.RowKit Go.Shelf

attribute [local go_sem] Oper.semAt_some

/-- 'x = append(x, ..)' by way of x's box B, the rows all beyond the boxes: every other block below them is as it was. -/
theorem app_low {W w1 : World} {N n₁ B : Nat} {t e : TypeId} {v v' : Value} {k m : Nat} {xs ys : List Value} {tmp : Obj} (hv : Boxed W B t v) (hrow : W.ownsRow n₁ e 1 v k xs) (hn : n₁ ≤ W.heap.size) (hB : B < n₁) (hN : N ≤ B)
    (hown : w1.ownsRow n₁ e 1 v' m ys) (hgrow : (W.alloc tmp).grownBy w1 v.ownBlock) :
    Boxed w1 B t v ∧ Boxed (w1.setCell ⟨B, 0, none⟩ v') B t v' ∧ (w1.setCell ⟨B, 0, none⟩ v').ownsRow n₁ e 1 v' m ys ∧ KeepsOthers W (w1.setCell ⟨B, 0, none⟩ v') ∧ Below N W (w1.setCell ⟨B, 0, none⟩ v') ∧
      Hid (∀ b, b < n₁ → b ≠ B → (w1.setCell ⟨B, 0, none⟩ v').heap[b]? = W.heap[b]?) := by
  have hne : ∀ b, b < n₁ → some b ≠ v.ownBlock := fun b hb e' => by have := (hrow.lt b e'.symm).1; omega
  have hv1 : Boxed w1 B t v := (hv.alloc tmp).kept hgrow (hne B hB)
  have hoth : ∀ b, b < n₁ → b ≠ B → (w1.setCell ⟨B, 0, none⟩ v').heap[b]? = W.heap[b]? := fun b hb hbB => app_other hgrow b (by omega) (hne b hb) hbB
  refine ⟨hv1, hv1.set v', ownsRow_of_heap hown (fun k hk => Below.heap_setCell _ _ _ _ (fun e' => by have := (hown.lt k hk).1; have e2 : k = B := e'; omega)), ?_, ?_, hoth⟩
  · refine ((KeepsOthers.alloc W tmp).trans (KeepsOthers.of_grownBy hgrow fun j o ej hj => ?_)).trans (KeepsOthers.setCell _ _ _)
    rcases (hrow.alloc tmp).2 with ⟨rfl, _⟩ | ⟨g, cap, cur, rfl, _, hgb, _⟩
    · simp [Value.ownBlock] at ej
    · obtain rfl : g = j := by simpa [Value.ownBlock] using ej
      rw [hgb] at hj; cases hj; rfl
  · exact (((Below.refl N W).alloc (by omega) tmp).grown hgrow (by simp; omega) (fun j ej => by have := (hrow.lt j ej).1; omega)).setCell (p := ⟨B, 0, none⟩) hN v'

theorem boxed_new' {W : World} {b : Nat} {t : TypeId} {v : Value} (h : b = W.heap.size) : Boxed (W.alloc (.cells #[v] t)) b t v := h ▸ Boxed.new W t v

theorem one_set {W : World} {a : Nat} {u : Value} (k : Nat) (h : k ≠ a) : (W.setCell ⟨a, 0, none⟩ u).heap[k]? = W.heap[k]? := Below.heap_setCell _ _ _ _ h
theorem two_sets {W : World} {a b : Nat} {u v : Value} (k : Nat) (h1 : k ≠ a) (h2 : k ≠ b) : ((W.setCell ⟨a, 0, none⟩ u).setCell ⟨b, 0, none⟩ v).heap[k]? = W.heap[k]? := (one_set k h2).trans (one_set k h1)

/-- One word more: what is there, the last number, whether there was too much. -/
def stepW (st : List Int × Int × Bool) (x : List UInt8) : List Int × Int × Bool :=
  if 1048576 < decTo x 0 ∨ st.1.length = 8 then (st.1, decTo x 0, true) else (st.1 ++ [decTo x 0], decTo x 0, st.2.2)
def stOf (ws : List (List UInt8)) : List Int × Int × Bool := ws.foldl stepW ([], 0, false)
theorem stOf_snoc (ws : List (List UInt8)) (x : List UInt8) : stOf (ws ++ [x]) = stepW (stOf ws) x := by simp [stOf]
theorem stOf_len : ∀ (ws : List (List UInt8)), (stOf ws).1.length ≤ 8 := by
  have : ∀ (ws : List (List UInt8)) st, st.1.length ≤ 8 → (ws.foldl stepW st).1.length ≤ 8 := by
    intro ws
    induction ws with
    | nil => intro st h; exact h
    | cons x ws ih =>
      intro st h
      refine ih _ ?_
      unfold stepW
      split
      · exact h
      · simp; omega
  exact fun ws => this ws _ (by simp)
/-- Words as numbers, or why not: the vector and the error's number. -/
def parseN (ws : List (List UInt8)) : List Int × Int :=
  if ws.all decOk then (if (stOf ws).2.1 = 0 then ([], 2) else if (stOf ws).2.2 then ([], 4) else ((stOf ws).1, 0)) else ([], 2)

end Go.Proofs.Ytdkpbfigjdmfpaa

/- vec's Parse: a text as a vector. Own work; no statement. -/
set_option linter.unusedSimpArgs false
set_option linter.unusedVariables false
namespace Go.Proofs.Ytdkpbfigjdmfpaa
open Go.RowKit Go.Shelf

/-- What is between the brackets. -/
def innerL (s : List UInt8) : List UInt8 := Lib.trimSuffix (Lib.trimPrefix s [91]) [93]
def bracketB (s : List UInt8) : Bool := Lib.hasPrefix s [91] && Lib.hasSuffix (Lib.trimPrefix s [91]) [93]
/-- A text as a vector and the error's number. -/
def parseL (s : List UInt8) : List Int × Int := if bracketB s then (if innerL s = [] then ([], 0) else parseN (splitL (innerL s))) else ([], 2)

theorem trimPrefix_length (s p : List UInt8) : (Lib.trimPrefix s p).length ≤ s.length := by unfold Lib.trimPrefix; split <;> simp
theorem trimSuffix_length (s p : List UInt8) : (Lib.trimSuffix s p).length ≤ s.length := by unfold Lib.trimSuffix; split <;> simp

end Go.Proofs.Ytdkpbfigjdmfpaa

/- rec's isKey, checkVal, Check: whether a record may be. Own work; no statement. -/
set_option linter.unusedSimpArgs false
set_option linter.unusedVariables false
namespace Go.Proofs.Ytdkpbfigjdmfpaa
open Go.RowKit

/-- A record, as plain data. -/
structure RecD where
  site : Int
  seq : Int
  dep : List Int
  key : ByteArray
  val : ByteArray

/-- In the world w the value v reads as the record r. -/
def IsRec (w : World) (v : Value) (r : RecD) : Prop :=
  ∃ a cap, v = .agg #[.int .i64 r.site, .int .i64 r.seq, .slice a r.dep.length cap, .string r.key, .string r.val] ∧ IsNums .i64 w (.slice a r.dep.length cap) r.dep

theorem IsRec.below {w w' : World} {v : Value} {r : RecD} (h : IsRec w v r) (hb : Below w.heap.size w w') : IsRec w' v r := by
  obtain ⟨a, cap, rfl, hn⟩ := h
  exact ⟨a, cap, rfl, hn.below hb⟩

/-- A vector's slice, with its numbers' count. -/
theorem IsNums.form {k : IntKind} {w : World} {v : Value} {l : List Int} (h : IsNums k w v l) : ∃ a cap, v = .slice a l.length cap := by
  obtain ⟨a, cap, rfl, -, -⟩ := h
  exact ⟨a, cap, rfl⟩

def keyB (c : UInt8) : Bool := decide ((97 ≤ c.toNat ∧ c.toNat ≤ 122) ∨ (48 ≤ c.toNat ∧ c.toNat ≤ 57))
def isKeyL (l : List UInt8) : Bool := decide (1 ≤ l.length ∧ l.length ≤ 8) && l.all keyB
def valB (c : UInt8) : Bool := decide (33 ≤ c.toNat ∧ c.toNat ≤ 126)
def checkValL (l : List UInt8) : Int := if l.all valB then (if 16 < l.length then 4 else 0) else 2

theorem all_not {p : UInt8 → Bool} (s : ByteArray) (k : Nat) (h : k < s.size) (hd : p s[k] = false) : s.data.toList.all p = false := by
  have hm : s[k] ∈ s.data.toList := by
    have : s[k] = s.data.toList[k]'(by simpa using h) := rfl
    rw [this]
    exact List.getElem_mem _
  rw [List.all_eq_false]
  exact ⟨_, hm, by rw [hd]; simp⟩

theorem all_snoc {p : UInt8 → Bool} (s : ByteArray) (k : Nat) (h : k < s.size) (hall : ∀ c ∈ s.data.toList.take k, p c = true) (hd : p s[k] = true) : ∀ c ∈ s.data.toList.take (k + 1), p c = true := by
  intro c hc
  rw [take_snoc_byte s k h] at hc
  rcases List.mem_append.1 hc with hc | hc
  · exact hall c hc
  · rw [List.mem_singleton.1 hc]; exact hd

theorem all_end {p : UInt8 → Bool} (s : ByteArray) (k : Nat) (h : ¬ k < s.size) (hall : ∀ c ∈ s.data.toList.take k, p c = true) : s.data.toList.all p = true := by
  have e : s.data.toList.take k = s.data.toList := List.take_of_length_le (by rw [← Lib.size_eq]; omega)
  rw [e] at hall
  exact List.all_eq_true.2 hall

/-- As what Check tells of r: the number of the error. -/
def checkR (r : RecD) (s : Int) : Int :=
  if s < 1 ∨ 8 < s ∨ r.site < 0 ∨ s ≤ r.site ∨ r.seq < 1 ∨ 1048576 < r.seq then 1 else if checkL r.dep s = 0 then
    (if r.seq ≤ geti r.dep r.site then 13 else if isKeyL r.key.data.toList then checkValL r.val.data.toList else 3) else checkL r.dep s

theorem box_below (w : World) (o : Obj) : Below w.heap.size w (w.alloc o) := (Below.refl _ w).alloc (Nat.le_refl _) o

end Go.Proofs.Ytdkpbfigjdmfpaa

/- The laws' Pairs: what a range over pairs of numbers tells. Own work; no statement. -/
set_option linter.unusedSimpArgs false
set_option linter.unusedVariables false
namespace Go.Proofs.Ytdkpbfigjdmfpaa
open Go.RowKit Go.Shelf

attribute [local go_sem] Oper.semAt_some
end Go.Proofs.Ytdkpbfigjdmfpaa

/- The laws' known(): two vectors, joined, met, in words: it answers true in whatever world that has the library's table of powers of ten. Own work; no statement. -/
set_option linter.unusedSimpArgs false
set_option linter.unusedVariables false
namespace Go.Proofs.Ytdkpbfigjdmfpaa
open Go.RowKit Go.Shelf

theorem itoa_digit (n : Int) (h0 : 0 ≤ n) (h1 : n < 10) : Lib.itoa n = [UInt8.ofNat (48 + n.toNat)] := by
  unfold Lib.itoa
  rw [if_neg (by omega), Lib.decDigits, dif_pos (by omega)]

theorem kJoin : bySiteL max [3, 0, 2] [1, 5] = [3, 5, 2] := by decide
theorem kMeet : bySiteL min [3, 0, 2] [1, 5] = [1, 0, 0] := by decide
theorem kText1 : textL [3, 5, 2] = [91, 51, 32, 53, 32, 50, 93] := by
  have : writtenL [3, 5, 2] = 3 := by decide
  simp [textL, this, numsTo, itoa_digit]
theorem kText2 : textL [1, 0, 0] = [91, 49, 93] := by
  have : writtenL [1, 0, 0] = 1 := by decide
  simp [textL, this, numsTo, itoa_digit]
theorem kText3 : textL [] = [91, 93] := by decide
theorem kWith : withL [1, 5] 3 7 = [1, 5, 0, 7] := by decide
theorem kText4 : textL [1, 5, 0, 7] = [91, 49, 32, 53, 32, 48, 32, 55, 93] := by
  have : writtenL [1, 5, 0, 7] = 4 := by decide
  simp [textL, this, numsTo, itoa_digit]
theorem kParse1 : parseL [91, 51, 32, 48, 32, 50, 93] = ([3, 0, 2], 0) := by decide +kernel
theorem kParse2 : parseL [91, 51, 32, 48, 93] = ([], 2) := by decide +kernel
theorem kPairs1 : (pairsTo [3, 0, 2] ([3, 0, 2] : List Int).length).map (·.1) = [0, 2] := by decide
theorem kPairs2 : (pairsTo [3, 0, 2] ([3, 0, 2] : List Int).length).map (·.2) = [3, 2] := by decide
theorem kSame : everyB eqB [3, 0, 2] [3, 0, 2] = true := by decide
theorem kCov1 : everyB covB [3, 5, 2] [3, 0, 2] = true := by decide
theorem kCov2 : everyB covB [3, 0, 2] [1, 5] = false := by decide
theorem kGet : geti [3, 0, 2] 9 = 0 := by decide
theorem kSum : ([3, 0, 2] : List Int).sum = 5 := by decide
theorem kCheck1 : checkL [3, 0, 2] 2 = 4 := by decide
theorem kCheck2 : checkL [3, 0, 2] 3 = 0 := by decide

theorem alloc_below (w : World) (o : Obj) : Below w.heap.size w (w.alloc o) := (Below.refl _ w).alloc (Nat.le_refl _) o
theorem lit_nums (w : World) (x y : Int) : IsNums .i64 (w.alloc (.cells #[.int .i64 x, .int .i64 y] 3)) (.slice (some ⟨w.heap.size, 0, none⟩) 2 2) [x, y] :=
  IsNums.of_row (base := 0) (World.ownsRow_lit (e := 3) (size := 1) w #[.int .i64 x, .int .i64 y] 2 (Nat.zero_le _) (by unfold maxLen; omega) rfl)

theorem small_inR {l : List Int} (h : ∀ x ∈ l, 0 ≤ x ∧ x ≤ 1048577) : InR l := fun x hx => by have := h x hx; omega

end Go.Proofs.Ytdkpbfigjdmfpaa

/- Plain laws on vectors as lists of numbers. Own work; no statement. -/
set_option linter.unusedSimpArgs false
set_option linter.unusedVariables false
namespace Go.Proofs.Ytdkpbfigjdmfpaa

theorem getD_out (l : List Int) (i : Nat) (h : l.length ≤ i) : l.getD i 0 = 0 := by
  rw [List.getD, List.getElem?_eq_none h]; rfl
theorem getD_in (l : List Int) (i : Nat) (h : i < l.length) : l.getD i 0 = l[i] := by
  rw [List.getD, List.getElem?_eq_getElem h]; rfl
theorem getD_mem (l : List Int) (i : Nat) (h : i < l.length) : l.getD i 0 ∈ l := by rw [getD_in l i h]; exact List.getElem_mem h

theorem every_iff {f : Int → Int → Bool} (h0 : f 0 0 = true) (a b : List Int) : everyB f a b = true ↔ ∀ i, f (a.getD i 0) (b.getD i 0) = true := by
  constructor
  · intro h i
    unfold everyB at h
    rw [List.all_eq_true] at h
    by_cases hi : i < max a.length b.length
    · exact h i (by simpa using hi)
    · rw [getD_out a i (by omega), getD_out b i (by omega)]; exact h0
  · intro h
    exact everyB_yes f a b (fun i _ => h i)
theorem cov_iff (a b : List Int) : everyB covB a b = true ↔ ∀ i, b.getD i 0 ≤ a.getD i 0 := by
  rw [every_iff (by decide)]; simp only [covB, decide_eq_true_eq]
theorem same_iff (a b : List Int) : everyB eqB a b = true ↔ ∀ i, a.getD i 0 = b.getD i 0 := by
  rw [every_iff (by decide)]; simp only [eqB, beq_iff_eq]
theorem site_get {f : Int → Int → Int} (h0 : f 0 0 = 0) (a b : List Int) (i : Nat) : (bySiteL f a b).getD i 0 = f (a.getD i 0) (b.getD i 0) := by
  by_cases hi : i < max a.length b.length
  · rw [getD_in _ i (by rw [bySiteL_length]; exact hi)]; simp [bySiteL]
  · rw [getD_out _ i (by rw [bySiteL_length]; omega), getD_out a i (by omega), getD_out b i (by omega), h0]
theorem join_get (a b : List Int) (i : Nat) : (bySiteL max a b).getD i 0 = max (a.getD i 0) (b.getD i 0) := site_get (by decide) a b i
theorem meet_get (a b : List Int) (i : Nat) : (bySiteL min a b).getD i 0 = min (a.getD i 0) (b.getD i 0) := site_get (by decide) a b i

theorem cov_join_l (x y : List Int) : everyB covB (bySiteL max x y) x = true := by rw [cov_iff]; intro i; rw [join_get]; omega
theorem cov_join_r (x y : List Int) : everyB covB (bySiteL max x y) y = true := by rw [cov_iff]; intro i; rw [join_get]; omega
theorem cov_meet_l (x y : List Int) : everyB covB x (bySiteL min x y) = true := by rw [cov_iff]; intro i; rw [meet_get]; omega
theorem cov_meet_r (x y : List Int) : everyB covB y (bySiteL min x y) = true := by rw [cov_iff]; intro i; rw [meet_get]; omega
theorem cov_lub {x y z : List Int} (h1 : everyB covB z x = true) (h2 : everyB covB z y = true) : everyB covB z (bySiteL max x y) = true := by
  rw [cov_iff] at *; intro i; rw [join_get]; have := h1 i; have := h2 i; omega
theorem cov_glb {x y z : List Int} (h1 : everyB covB x z = true) (h2 : everyB covB y z = true) : everyB covB (bySiteL min x y) z = true := by
  rw [cov_iff] at *; intro i; rw [meet_get]; have := h1 i; have := h2 i; omega
theorem join_assoc (x y z : List Int) : everyB eqB (bySiteL max x (bySiteL max y z)) (bySiteL max (bySiteL max x y) z) = true := by
  rw [same_iff]; intro i; rw [join_get, join_get, join_get, join_get]; omega
theorem same_cov (x y : List Int) : everyB eqB x y = (everyB covB x y && everyB covB y x) := by
  rw [Bool.eq_iff_iff, Bool.and_eq_true, same_iff, cov_iff, cov_iff]
  constructor
  · intro h; exact ⟨fun i => by have := h i; omega, fun i => by have := h i; omega⟩
  · intro h i; have := h.1 i; have := h.2 i; omega

/-- The first n numbers together. -/
def sumTo (f : Nat → Int) : Nat → Int
  | 0 => 0
  | n + 1 => sumTo f n + f n
theorem sumTo_congr {f g : Nat → Int} (h : ∀ i, f i = g i) : ∀ n, sumTo f n = sumTo g n
  | 0 => rfl
  | n + 1 => by simp only [sumTo]; rw [sumTo_congr h n, h n]
theorem sumTo_add (f g : Nat → Int) : ∀ n, sumTo f n + sumTo g n = sumTo (fun i => f i + g i) n
  | 0 => rfl
  | n + 1 => by simp only [sumTo]; rw [← sumTo_add f g n]; omega
theorem sumTo_take (l : List Int) : ∀ n, n ≤ l.length → sumTo (fun i => l.getD i 0) n = (l.take n).sum
  | 0, _ => by simp [sumTo]
  | n + 1, h => by
    rw [take_snoc_getD l n (by omega), List.sum_append, ← sumTo_take l n (by omega)]
    simp [sumTo]
theorem sumTo_more (l : List Int) (k : Nat) : sumTo (fun i => l.getD i 0) (l.length + k) = l.sum := by
  induction k with
  | zero => rw [Nat.add_zero, sumTo_take l _ (Nat.le_refl _), List.take_of_length_le (Nat.le_refl _)]
  | succ k ih => rw [← Nat.add_assoc, sumTo, ih, getD_out l _ (by omega)]; omega
theorem sum_eq (l : List Int) (n : Nat) (h : l.length ≤ n) : l.sum = sumTo (fun i => l.getD i 0) n := by
  have := sumTo_more l (n - l.length)
  rw [← this]
  congr 1
  omega
theorem sum_join_meet (x y : List Int) : (bySiteL max x y).sum + (bySiteL min x y).sum = x.sum + y.sum := by
  have n := max x.length y.length
  rw [sum_eq (bySiteL max x y) (max x.length y.length) (by rw [bySiteL_length]; exact Nat.le_refl _), sum_eq (bySiteL min x y) (max x.length y.length) (by rw [bySiteL_length]; exact Nat.le_refl _),
    sum_eq x (max x.length y.length) (by omega), sum_eq y (max x.length y.length) (by omega), sumTo_add, sumTo_add]
  exact sumTo_congr (fun i => by rw [join_get, meet_get]; omega) _

/-- All numbers between 0 and m. -/
def InB (m : Int) (l : List Int) : Prop := ∀ x ∈ l, 0 ≤ x ∧ x ≤ m
theorem InB.get {m : Int} {l : List Int} (h : InB m l) (hm : 0 ≤ m) (i : Nat) : 0 ≤ l.getD i 0 ∧ l.getD i 0 ≤ m := by
  by_cases hi : i < l.length
  · exact h _ (getD_mem l i hi)
  · rw [getD_out l i (by omega)]; exact ⟨Int.le_refl _, hm⟩
theorem InB.site {m : Int} {f : Int → Int → Int} (hf : ∀ a b, 0 ≤ a ∧ a ≤ m → 0 ≤ b ∧ b ≤ m → 0 ≤ f a b ∧ f a b ≤ m) {a b : List Int} (ha : InB m a) (hb : InB m b) (hm : 0 ≤ m) : InB m (bySiteL f a b) := by
  intro x hx
  simp only [bySiteL, List.mem_map] at hx
  obtain ⟨i, _, rfl⟩ := hx
  exact hf _ _ (ha.get hm i) (hb.get hm i)
theorem InB.join {m : Int} {a b : List Int} (ha : InB m a) (hb : InB m b) (hm : 0 ≤ m) : InB m (bySiteL max a b) := ha.site (fun x y h1 h2 => by omega) hb hm
theorem InB.meet {m : Int} {a b : List Int} (ha : InB m a) (hb : InB m b) (hm : 0 ≤ m) : InB m (bySiteL min a b) := ha.site (fun x y h1 h2 => by omega) hb hm
theorem InB.mono {m m' : Int} {l : List Int} (h : InB m l) (hm : m ≤ m') : InB m' l := fun x hx => by have := h x hx; omega
theorem InB.sum {m : Int} {l : List Int} (h : InB m l) : 0 ≤ l.sum ∧ l.sum ≤ m * l.length := by
  induction l with
  | nil => simp
  | cons x l ih =>
    have h1 := h x (by simp)
    have h2 := ih (fun y hy => h y (by simp [hy]))
    rw [List.sum_cons, List.length_cons, Int.natCast_add, Int.mul_add]
    omega

end Go.Proofs.Ytdkpbfigjdmfpaa

/- Tokens and drafts as plain data: what may come, what is admitted, what is left. Own work; no statement. -/
set_option linter.unusedSimpArgs false
set_option linter.unusedVariables false
namespace Go.Proofs.Ytdkpbfigjdmfpaa
open Go.RowKit

/-- A draft. -/
structure DrD where
  ticket : Int
  r : RecD

/-- A token: its late ones in order. -/
structure TokD where
  own : Int
  next : Int
  seen : List Int
  late : List DrD

/-- May it come? -/
def mayD (own : Int) (s : List Int) (d : DrD) : Bool :=
  if d.r.site = own then (decide (d.r.seq = 0) && decide (geti s own < 1048576)) && everyB covB s d.r.dep else decide (d.r.seq = geti s d.r.site + 1) && everyB covB s d.r.dep
/-- As it is put: an own one gets its number. -/
def putT (own : Int) (s : List Int) (d : DrD) : DrD := if d.r.site = own then ⟨d.ticket, { d.r with seq := geti s own + 1 }⟩ else d
/-- What is seen behind it. -/
def seenT (own : Int) (s : List Int) (d : DrD) : List Int := withL s d.r.site (putT own s d).r.seq
/-- What is left without the first one that may come. -/
def outT (own : Int) (s : List Int) (l : List DrD) : List DrD := l.eraseIdx (l.findIdx (mayD own s))
/-- The first one that may come, from the first one on again, so often: what is seen, what is left, what was put. -/
def admT (own : Int) : Nat → List Int → List DrD → List Int × List DrD × List DrD
  | 0, s, l => (s, l, [])
  | n + 1, s, l => match l.find? (mayD own s) with
    | none => (s, l, [])
    | some d => let r := admT own n (seenT own s d) (outT own s l); (r.1, r.2.1, putT own s d :: r.2.2)
/-- Is it of no more use, behind those of e? -/
def goneT (own : Int) (s : List Int) (e : List DrD) (d : DrD) : Bool :=
  if d.r.site = own then decide (d.r.seq ≠ 0) else decide (d.r.seq ≤ geti s d.r.site) || e.any fun x => decide (x.r.site = d.r.site) && decide (x.r.seq = d.r.seq)
/-- What stays of l, behind those of e. -/
def lateT (own : Int) (s : List Int) : List DrD → List DrD → List DrD
  | _, [] => []
  | e, d :: l => if goneT own s e d then lateT own s (e ++ [d]) l else d :: lateT own s (e ++ [d]) l
/-- With their positions. -/
def slotsT (p : Int) : List DrD → List (Int × DrD)
  | [] => []
  | d :: l => (p, d) :: slotsT (p + 1) l
/-- Admit. -/
def admitT (t : TokD) (m : List DrD) : TokD × List (Int × DrD) :=
  let r := admT t.own (t.late ++ m).length t.seen (t.late ++ m)
  (⟨t.own, t.next + (r.2.2.length : Int), r.1, lateT t.own r.1 [] r.2.1⟩, slotsT t.next r.2.2)

/-! ### Vectors -/

theorem withL_get {s : List Int} {i n : Int} (h0 : 0 ≤ i) (h1 : i ≤ 63) (j : Int) : geti (withL s i n) j = if j = i then n else geti s j := by
  obtain ⟨k, rfl⟩ := Int.eq_ofNat_of_zero_le h0
  unfold withL
  rw [if_neg (by omega), Int.toNat_natCast]
  unfold geti
  have hl : ((stretchL s (max s.length (k + 1))).set k n).length = max s.length (k + 1) := by rw [List.length_set, stretchL_length _ _ (by omega)]
  rw [hl]
  by_cases hj : j < 0 ∨ ((max s.length (k + 1) : Nat) : Int) ≤ j
  · rw [if_pos hj, if_neg (by omega), if_pos (by omega)]
  · rw [if_neg hj]
    obtain ⟨m, rfl⟩ := Int.eq_ofNat_of_zero_le (show 0 ≤ j by omega)
    rw [Int.toNat_natCast]
    by_cases hm : m = k
    · subst hm
      rw [if_pos rfl, List.getD_eq_getElem?_getD, List.getElem?_set_self (by rw [stretchL_length _ _ (by omega)]; omega)]
      rfl
    · rw [if_neg (by omega), List.getD_eq_getElem?_getD, List.getElem?_set_ne (fun e => hm e.symm)]
      unfold stretchL
      by_cases hs : m < s.length
      · rw [List.getElem?_append_left hs, if_neg (by omega), List.getD_eq_getElem?_getD]
      · rw [List.getElem?_append_right (by omega), if_pos (by omega), List.getElem?_replicate]
        split <;> rfl
theorem cov_geti (a b : List Int) : everyB covB a b = true ↔ ∀ i : Nat, geti b (i : Int) ≤ geti a (i : Int) := by
  rw [cov_iff]
  simp only [geti_nat]
/-- Who covers a vector that covers another covers that. -/
theorem cov_trans {a b c : List Int} (h : ∀ i : Nat, geti b (i : Int) ≤ geti a (i : Int)) (k : everyB covB b c = true) : everyB covB a c = true := by
  rw [cov_geti] at k ⊢
  exact fun i => Int.le_trans (k i) (h i)

/-! ### Steps -/

section
variable {own : Int}

theorem putT_r (s : List Int) (d : DrD) : (putT own s d).r.site = d.r.site ∧ (putT own s d).r.dep = d.r.dep ∧ (putT own s d).ticket = d.ticket := by
  unfold putT
  split <;> exact ⟨rfl, rfl, rfl⟩
/-- One that may come is put with the next number of its site. -/
theorem may_put {s : List Int} {d : DrD} (h : mayD own s d = true) : (putT own s d).r.seq = geti s d.r.site + 1 ∧ everyB covB s d.r.dep = true := by
  unfold mayD at h
  unfold putT
  split
  · rename_i e
    rw [if_pos e] at h
    simp only [Bool.and_eq_true, decide_eq_true_eq] at h
    exact ⟨by rw [e], h.2⟩
  · rename_i e
    rw [if_neg e] at h
    simp only [Bool.and_eq_true, decide_eq_true_eq] at h
    exact ⟨h.1, h.2⟩
theorem seenT_get {s : List Int} {d : DrD} (h : mayD own s d = true) (h0 : 0 ≤ d.r.site) (h1 : d.r.site ≤ 63) (j : Int) : geti (seenT own s d) j = if j = d.r.site then geti s d.r.site + 1 else geti s j := by
  unfold seenT
  rw [withL_get h0 h1, (may_put h).1]
theorem find_out {s : List Int} {l : List DrD} {d : DrD} (h : l.find? (mayD own s) = some d) : d ∈ l ∧ mayD own s d = true ∧ (outT own s l).length + 1 = l.length ∧ ∃ a b, l = a ++ d :: b ∧ outT own s l = a ++ b ∧ ∀ x ∈ a, mayD own s x = false := by
  obtain ⟨hd, a, b, rfl, ha⟩ := List.find?_eq_some_iff_append.1 h
  have ha' : ∀ x ∈ a, mayD own s x = false := fun x hx => by simpa using ha x hx
  have hi : (a ++ d :: b).findIdx (mayD own s) = a.length := by
    rw [List.findIdx_append]
    rw [List.findIdx_eq_length_of_false ha', if_neg (by omega), List.findIdx_cons, hd]
    simp
  have ho : outT own s (a ++ d :: b) = a ++ b := by
    unfold outT
    rw [hi, List.eraseIdx_append_of_length_le (Nat.le_refl _), Nat.sub_self]
    rfl
  refine ⟨by simp, hd, by rw [ho]; simp; omega, a, b, rfl, ho, ha'⟩
theorem outT_mem {s : List Int} {l : List DrD} {d : DrD} (h : l.find? (mayD own s) = some d) : ∀ x, x ∈ outT own s l → x ∈ l := by
  obtain ⟨-, -, -, a, b, rfl, e, -⟩ := find_out h
  rw [e]
  intro x hx
  rcases List.mem_append.1 hx with h | h
  · exact List.mem_append.2 (.inl h)
  · exact List.mem_append.2 (.inr (List.mem_cons_of_mem _ h))
/-- Behind all steps nothing that is left may come. -/
theorem adm_end : ∀ (n : Nat) (s : List Int) (l : List DrD), l.length ≤ n → ∀ d ∈ (admT own n s l).2.1, mayD own (admT own n s l).1 d = false
  | 0, s, l, h, d, hd => by
    obtain rfl : l = [] := List.length_eq_zero_iff.1 (Nat.le_zero.1 h)
    cases hd
  | n + 1, s, l, h, d, hd => by
    unfold admT at hd ⊢
    cases hf : l.find? (mayD own s) with
    | none =>
      rw [hf] at hd
      have := List.find?_eq_none.1 hf d hd
      simpa using this
    | some x =>
      rw [hf] at hd
      obtain ⟨-, -, hl, -⟩ := find_out hf
      exact adm_end n _ _ (by omega) d hd
/-- What is left was there; what was put too. -/
theorem adm_left : ∀ (n : Nat) (s : List Int) (l : List DrD), ∀ d ∈ (admT own n s l).2.1, d ∈ l
  | 0, s, l, d, hd => hd
  | n + 1, s, l, d, hd => by
    unfold admT at hd
    cases hf : l.find? (mayD own s) with
    | none => rw [hf] at hd; exact hd
    | some x =>
      rw [hf] at hd
      exact outT_mem hf d (adm_left n _ _ d hd)
theorem adm_count : ∀ (n : Nat) (s : List Int) (l : List DrD), (admT own n s l).2.1.length + (admT own n s l).2.2.length = l.length
  | 0, s, l => by simp [admT]
  | n + 1, s, l => by
    unfold admT
    cases hf : l.find? (mayD own s) with
    | none => simp
    | some x =>
      obtain ⟨-, -, hl, -⟩ := find_out hf
      have := adm_count n (seenT own s x) (outT own s l)
      dsimp only
      rw [List.length_cons]
      omega
/-- Nothing may come: nothing happens. -/
theorem adm_none (n : Nat) {s : List Int} {l : List DrD} (h : ∀ d ∈ l, mayD own s d = false) : admT own n s l = (s, l, []) := by
  cases n with
  | zero => rfl
  | succ n =>
    unfold admT
    rw [List.find?_eq_none.2 fun d hd => by rw [h d hd]; decide]
/-- More steps than there are drafts come to the same. -/
theorem adm_more : ∀ (n m : Nat) (s : List Int) (l : List DrD), l.length ≤ n → n ≤ m → admT own m s l = admT own n s l
  | 0, m, s, l, h, _ => by
    obtain rfl : l = [] := List.length_eq_zero_iff.1 (Nat.le_zero.1 h)
    exact adm_none m fun _ h => by cases h
  | n + 1, 0, s, l, h, h2 => by omega
  | n + 1, m + 1, s, l, h, h2 => by
    unfold admT
    cases hf : l.find? (mayD own s) with
    | none => rfl
    | some x =>
      obtain ⟨-, -, hl, -⟩ := find_out hf
      dsimp only
      rw [adm_more n m _ _ (by omega) (by omega)]
/-- What was put, one behind the other: each has the next number of its site, and hangs on what was there. -/
def chainT : List Int → List DrD → Prop
  | _, [] => True
  | s, d :: l => (d.r.seq = geti s d.r.site + 1 ∧ everyB covB s d.r.dep = true) ∧ chainT (withL s d.r.site d.r.seq) l
def endT : List Int → List DrD → List Int
  | s, [] => s
  | s, d :: l => endT (withL s d.r.site d.r.seq) l
theorem adm_chain : ∀ (n : Nat) (s : List Int) (l : List DrD), chainT s (admT own n s l).2.2 ∧ endT s (admT own n s l).2.2 = (admT own n s l).1
  | 0, s, l => ⟨trivial, rfl⟩
  | n + 1, s, l => by
    unfold admT
    cases hf : l.find? (mayD own s) with
    | none => exact ⟨trivial, rfl⟩
    | some x =>
      obtain ⟨-, hm, -⟩ := find_out hf
      obtain ⟨h1, h2⟩ := adm_chain n (seenT own s x) (outT own s l)
      obtain ⟨p1, p2, -⟩ := putT_r (own := own) s x
      obtain ⟨q1, q2⟩ := may_put hm
      dsimp only
      refine ⟨⟨⟨by rw [p1]; exact q1, by rw [p2]; exact q2⟩, ?_⟩, ?_⟩
      · rw [p1]
        exact h1
      · show endT (withL s (putT own s x).r.site (putT own s x).r.seq) _ = _
        rw [p1]
        exact h2

/-! ### What is left -/

theorem late_mem : ∀ (s : List Int) (e l : List DrD), ∀ d ∈ lateT own s e l, d ∈ l
  | _, _, [], d, h => by cases h
  | s, e, x :: l, d, h => by
    unfold lateT at h
    split at h
    · exact List.mem_cons_of_mem _ (late_mem s _ l d h)
    · rcases List.mem_cons.1 h with rfl | h
      · exact List.mem_cons_self
      · exact List.mem_cons_of_mem _ (late_mem s _ l d h)
/-- What stays: own ones without a number; of others those above what is seen, no two alike, none alike one of e. -/
theorem late_good : ∀ (s : List Int) (e l : List DrD), (∀ d ∈ lateT own s e l, (d.r.site = own ∧ d.r.seq = 0) ∨ (d.r.site ≠ own ∧ geti s d.r.site < d.r.seq ∧ ∀ x ∈ e, ¬ (x.r.site = d.r.site ∧ x.r.seq = d.r.seq))) ∧
    (lateT own s e l).Pairwise fun a b => b.r.site ≠ own → ¬ (a.r.site = b.r.site ∧ a.r.seq = b.r.seq)
  | _, _, [] => ⟨fun _ h => (by cases h), List.Pairwise.nil⟩
  | s, e, x :: l => by
    obtain ⟨h1, h2⟩ := late_good s (e ++ [x]) l
    have h1' : ∀ d ∈ lateT own s (e ++ [x]) l, (d.r.site = own ∧ d.r.seq = 0) ∨ (d.r.site ≠ own ∧ geti s d.r.site < d.r.seq ∧ ∀ x ∈ e, ¬ (x.r.site = d.r.site ∧ x.r.seq = d.r.seq)) := fun d hd => (h1 d hd).imp id fun ⟨a, b, c⟩ => ⟨a, b, fun y hy => c y (List.mem_append.2 (.inl hy))⟩
    unfold lateT
    split
    · exact ⟨h1', h2⟩
    · rename_i hg
      refine ⟨fun d hd => ?_, List.pairwise_cons.2 ⟨fun b hb hbo => ?_, h2⟩⟩
      · rcases List.mem_cons.1 hd with rfl | hd
        · unfold goneT at hg
          by_cases hs : d.r.site = own
          · rw [if_pos hs] at hg
            exact .inl ⟨hs, by simpa using hg⟩
          · rw [if_neg hs] at hg
            simp only [Bool.or_eq_true, decide_eq_true_eq, List.any_eq_true, Bool.and_eq_true, not_or, not_exists, not_and] at hg
            exact .inr ⟨hs, by omega, fun x hx ⟨a, b⟩ => hg.2 x hx a b⟩
        · exact h1' d hd
      · rcases h1 b hb with ⟨a, -⟩ | ⟨-, -, c⟩
        · exact absurd a hbo
        · exact c x (List.mem_append.2 (.inr (List.mem_singleton.2 rfl)))
/-- What has stayed stays. -/
theorem late_again : ∀ (s : List Int) (e l : List DrD), (∀ d ∈ l, (d.r.site = own ∧ d.r.seq = 0) ∨ (d.r.site ≠ own ∧ geti s d.r.site < d.r.seq ∧ ∀ x ∈ e, ¬ (x.r.site = d.r.site ∧ x.r.seq = d.r.seq))) →
    (l.Pairwise fun a b => b.r.site ≠ own → ¬ (a.r.site = b.r.site ∧ a.r.seq = b.r.seq)) → lateT own s e l = l
  | _, _, [], _, _ => rfl
  | s, e, x :: l, h1, h2 => by
    rw [List.pairwise_cons] at h2
    have hg : goneT own s e x = false := by
      unfold goneT
      rcases h1 x List.mem_cons_self with ⟨a, b⟩ | ⟨a, b, c⟩
      · rw [if_pos a]
        simpa using b
      · rw [if_neg a]
        simp only [Bool.or_eq_false_iff, decide_eq_false_iff_not, List.any_eq_false, Bool.and_eq_true, decide_eq_true_eq, not_and]
        exact ⟨by omega, fun y hy h => by simpa using fun q => c y hy ⟨h, q⟩⟩
    unfold lateT
    rw [hg]
    simp only [Bool.false_eq_true, if_false]
    rw [late_again s (e ++ [x]) l (fun d hd => ?_) h2.2]
    rcases h1 d (List.mem_cons_of_mem _ hd) with h | ⟨a, b, c⟩
    · exact .inl h
    · refine .inr ⟨a, b, fun y hy => ?_⟩
      rcases List.mem_append.1 hy with hy | hy
      · exact c y hy
      · rw [List.mem_singleton.1 hy]
        exact h2.1 d hd a
end

/-- Of what Admit left nothing is admitted, nothing goes. -/
theorem admit_again (t : TokD) (m : List DrD) : admitT (admitT t m).1 [] = ((admitT t m).1, []) := by
  have hend := adm_end (own := t.own) (t.late ++ m).length t.seen (t.late ++ m) (Nat.le_refl _)
  obtain ⟨g1, g2⟩ := late_good (own := t.own) (admT t.own (t.late ++ m).length t.seen (t.late ++ m)).1 [] (admT t.own (t.late ++ m).length t.seen (t.late ++ m)).2.1
  have hm := late_mem (own := t.own) (admT t.own (t.late ++ m).length t.seen (t.late ++ m)).1 [] (admT t.own (t.late ++ m).length t.seen (t.late ++ m)).2.1
  unfold admitT
  dsimp only
  generalize (admT t.own (t.late ++ m).length t.seen (t.late ++ m)) = R at *
  rw [List.append_nil, adm_none _ (fun d hd => hend d (hm d hd))]
  dsimp only
  rw [late_again _ _ _ g1 g2]
  simp [slotsT]

end Go.Proofs.Ytdkpbfigjdmfpaa

/- rec's Check, Before, Same; the laws' Of and Few. Own work; no statement. -/
set_option linter.unusedSimpArgs false
set_option linter.unusedVariables false
namespace Go.Proofs.Ytdkpbfigjdmfpaa
open Go.RowKit
set_option maxHeartbeats 400000 in
theorem recOfLaw_calls (v : Value) (r : RecD) (w : World) (hv : IsRec w v r) :
    Calls Try.prog 28 #[v] w fun e w' => e = .returned v ∧ Below w.heap.size w w' := by
  obtain ⟨site, seq, dep, key, val⟩ := r
  obtain ⟨a, cap, rfl, hn⟩ := hv
  dsimp only at *
  clear hn
  go_enter Try.func28, Try.ntmps28
  go_wp2
  refine bodyPost_ret (v := .agg #[.int .i64 site, .int .i64 seq, .slice a dep.length cap, .string key, .string val]) (by simp [results, Try.f28, go_sem]) rfl ⟨rfl, (box_below _ _).alloc (by simp) _⟩

--has landau/landaulaw2.Few
def fewR (r : RecD) : Bool := decide (r.dep.length ≤ 70 ∧ r.key.size ≤ 50 ∧ r.val.size ≤ 50)
set_option maxHeartbeats 400000 in
theorem recFew_calls (v : Value) (r : RecD) (w : World) (hv : IsRec w v r) :
    Calls Try.prog 29 #[v] w fun e w' => e = .returned (.bool (fewR r)) ∧ Below w.heap.size w w' := by
  obtain ⟨b, hb⟩ : ∃ b, fewR r = b := ⟨_, rfl⟩
  rw [hb]
  unfold fewR at hb
  obtain ⟨site, seq, dep, key, val⟩ := r
  obtain ⟨a, cap, rfl, hn⟩ := hv
  dsimp only at *
  clear hn
  have Hb := hide hb
  clear hb
  by_cases h1 : (dep.length : Int) ≤ 70
  · by_cases h2 : (key.size : Int) ≤ 50
    · by_cases h3 : (val.size : Int) ≤ 50
      · have e : b = true := by rw [← Hb.out, decide_eq_true (by omega)]
        subst e
        go_enter Try.func29, Try.ntmps29
        go_wp2
        go_ret
        exact ⟨by simp [h3], box_below _ _⟩
      · have e : b = false := by rw [← Hb.out, decide_eq_false (by omega)]
        subst e
        go_enter Try.func29, Try.ntmps29
        go_wp2
        go_ret
        exact ⟨by simp [h3], box_below _ _⟩
    · have e : b = false := by rw [← Hb.out, decide_eq_false (by omega)]
      subst e
      go_enter Try.func29, Try.ntmps29
      go_wp2
      go_ret
      exact ⟨by simp, box_below _ _⟩
  · have e : b = false := by rw [← Hb.out, decide_eq_false (by omega)]
    subst e
    go_enter Try.func29, Try.ntmps29
    go_wp2
    go_ret
    exact ⟨by simp, box_below _ _⟩

end Go.Proofs.Ytdkpbfigjdmfpaa

/- rec's Before and Same. Own work; no statement. -/
set_option linter.unusedSimpArgs false
set_option linter.unusedVariables false
namespace Go.Proofs.Ytdkpbfigjdmfpaa
open Go.RowKit

/-- A region whose head only reads, and whose tail comes in one order. -/
theorem region_tail {P : Program} {id : Nat} {Q : Exit → Act → World → Prop} {a : Act} {w : World} {l : List Oper} (n : Nat) (hm : P.follows .mixedOrders = true) (hB : Region.lexTailB .any l.toArray n = true)
    (h : wpStill P l.toArray w.drew (fun a' => wpList P l.toArray Q (l.drop n) a' w.drew) (l.take n) a) : (Code.region id l.toArray true).wp P Q a w := wp_region_still_tail n hm hB h

theorem str_ne {a b : ByteArray} (h : ¬ a = b) : (a.toList == b.toList) = false := by
  rw [beq_eq_false_iff_ne, Lib.toList_data, Lib.toList_data]
  intro e
  exact h (ByteArray.ext (Array.toList_inj.1 e))

def sameR (a b : RecD) : Bool := decide (a.site = b.site) && (decide (a.seq = b.seq) && (decide (a.key = b.key) && (decide (a.val = b.val) && everyB eqB a.dep b.dep)))

def beforeR (a b : RecD) : Bool := decide (a.site < b.site ∨ a.site = b.site ∧ a.seq < b.seq)


end Go.Proofs.Ytdkpbfigjdmfpaa

/- A region whose operations read, and whose callees make memory of their own: one walk of the text's order serves every order. rec's Text. Own work; no statement. -/
set_option linter.unusedSimpArgs false
set_option linter.unusedVariables false
namespace Go.Proofs.Ytdkpbfigjdmfpaa
open Go.RowKit Go.Sort

theorem app_bytes (a b : List UInt8) : (⟨a.toArray⟩ : ByteArray) ++ ⟨b.toArray⟩ = ⟨(a ++ b).toArray⟩ := by
  apply ByteArray.ext
  simp [ByteArray.data_append]

theorem textL_length {l : List Int} (h : InR l) : (textL l).length ≤ 22 * l.length + 2 := by
  have h1 := numsTo_length h (writtenL l)
  have h2 := writtenL_le l
  unfold textL
  simp
  omega

/-- A record in words. -/
def textR (r : RecD) : ByteArray := (⟨(Lib.itoa r.site).toArray⟩ : ByteArray) ++ ⟨#[58]⟩ ++ ⟨(Lib.itoa r.seq).toArray⟩ ++ ⟨#[32]⟩ ++ ⟨(textL r.dep).toArray⟩ ++ ⟨#[32]⟩ ++ r.key ++ ⟨#[61]⟩ ++ r.val

end Go.Proofs.Ytdkpbfigjdmfpaa
