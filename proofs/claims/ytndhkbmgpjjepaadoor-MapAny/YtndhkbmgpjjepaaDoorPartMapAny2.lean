/- Own work: the parts W7, W8, W9, Range, W11, W12, W13, W14, R1, R2, R3, R4, R5, R6, R7 of the proof, laid together. -/
import Derived.Test.YtndhkbmgpjjepaaDoorPartMapAny1
import Derived.Test.YtndhkbmgpjjepaaDoorShelf
import Derived.Laws.BytesArg
import Derived.Lib.ItoaLen
import Derived.Lib.AppendIntMem
import Derived.Lib.UnsafeStr
import Derived.RangeFuncNested
import Derived.RangeFuncBound
import Derived.RangeFuncCalls
import Derived.RangeFuncLeaves
import Derived.Shelf.Abstract
import Derived.Shelf.RegionOpen
import Derived.OwnWalkIn
import Derived.TacticsInMore
import Derived.LoopNIn
import Derived.LoopIn
import Derived.Maps.OwnIn
import Derived.Lib.Bytealg
import Derived.Deep.RegionWith
import Derived.StillTailTactics
import Derived.Laws.Concat
import Derived.Lib.QuietBelow
import Derived.Laws.AppendOwn
import Derived.Outline
/- The walk of vec's Text: a vector in words. Own work; no statement. -/
set_option linter.unusedSimpArgs false
set_option linter.unusedVariables false
namespace Go.Proofs.YtndhkbmgpjjepaaDoor
open Go.RowKit

theorem conv_row {P : Program} {w : World} {base n : Nat} {e src dst : TypeId} {v : Value} {bs : List UInt8} (h : w.ownsRow base e 1 v n (Lib.byteCells bs))
    (hs : P.underlying src = some (.slice e)) (he : P.underlying e = some (.int .u8)) (hd : P.underlying dst = some .string) : (convert src dst v).run P w = .ok (.string ⟨bs.toArray⟩) w := by
  have hn : bs.length = n := by simpa [Lib.byteCells] using h.1
  have e1 : strOfNums (bs.map fun b => (b.toNat : Int)) = ⟨bs.toArray⟩ := by
    have : (bs.map fun b => (b.toNat : Int)).map (fun n => UInt8.ofNat n.toNat) = bs := by
      rw [List.map_map]
      conv => rhs; rw [← List.map_id bs]
      apply List.map_congr_left
      intro b _
      simp
    unfold strOfNums
    rw [this]
  rcases h.2 with ⟨rfl, rfl⟩ | ⟨g, cap, cur, rfl, hb, hg, hnc, hcm, hcs, ht⟩
  · obtain rfl : bs = [] := List.eq_nil_of_length_eq_zero hn
    exact run_convert_bytes_nil w src e hs he 0 0 dst hd
  · rw [← e1]
    refine run_convert_bytes_arg w src e hs he g 0 n cap _ (by simpa using hn) (fun i hi => ?_) dst hd
    rw [Nat.zero_add, h.cellAt i (by omega)]
    simp [Lib.byteCells, List.getD, show i < bs.length by omega]

/-- The library's table of powers of ten lies where it lay, in this world and in all that come out of it. -/
def Pow (w : World) : Prop := Lib.TabBelow Tryd.prog w.heap.size w "internal/strconv.uint64pow10" .u64 Lib.pow10Tab
theorem Pow.below {w w' : World} (h : Pow w) (hb : Below w.heap.size w w') : Pow w' := fun w2 h2 => h w2 (hb.trans (h2.mono hb.size))

/-- The numbers are such as an int holds. -/
def InR (l : List Int) : Prop := ∀ x ∈ l, -9223372036854775808 ≤ x ∧ x ≤ 9223372036854775807

/-- The first k numbers in words, with blanks between. -/
def numsTo (l : List Int) : Nat → List UInt8
  | 0 => []
  | k + 1 => numsTo l k ++ ((if k = 0 then [] else [32]) ++ Lib.itoa (l.getD k 0))
/-- A vector in words. -/
def textL (l : List Int) : List UInt8 := 91 :: (numsTo l (writtenL l) ++ [93])

theorem getD_inR {l : List Int} (h : InR l) (k : Nat) : -9223372036854775808 ≤ l.getD k 0 ∧ l.getD k 0 ≤ 9223372036854775807 := by
  by_cases hk : k < l.length
  · rw [List.getD, List.getElem?_eq_getElem hk]
    exact h _ (List.getElem_mem hk)
  · rw [List.getD, List.getElem?_eq_none (by omega)]
    simp

theorem numsTo_length {l : List Int} (h : InR l) : ∀ k, (numsTo l k).length ≤ 22 * k
  | 0 => by simp [numsTo]
  | k + 1 => by
    have h1 := numsTo_length h k
    have h2 := Lib.itoa_length_le (l.getD k 0) (getD_inR h k).1 (getD_inR h k).2
    have h3 : ((if k = 0 then [] else [32] : List UInt8)).length ≤ 1 := by split <;> simp
    simp only [numsTo, List.length_append]
    omega

theorem snoc93 (l : List UInt8) : Lib.byteCells l ++ [.int .u8 93] = Lib.byteCells (l ++ [93]) := by simp [Lib.byteCells]
theorem snoc32 (l : List UInt8) : Lib.byteCells l ++ [.int .u8 32] = Lib.byteCells (l ++ [32]) := by simp [Lib.byteCells]

theorem Tryd.info5 : (Tryd.prog.info? 5).map (fun i => (i.zero, i.size, i.bytes)) = some (some (.int .u8 0), 1, 1) := by kernel_rfl

theorem written_nil : ((writtenL [] : Nat) : Int) = 0 := rfl

end Go.Proofs.YtndhkbmgpjjepaaDoor

/- vec's All: the range over a vector's sites, by its contract; Sum, which goes over it. Own work; no statement. -/
set_option linter.unusedSimpArgs false
set_option linter.unusedVariables false
namespace Go.Proofs.YtndhkbmgpjjepaaDoor
open Go.RowKit Go.Shelf

attribute [local go_sem] Oper.semAt_some

/-- The sites below k that are not nothing, with their numbers. -/
def pairsTo (l : List Int) : Nat → List (Int × Int)
  | 0 => []
  | k + 1 => pairsTo l k ++ (if l.getD k 0 = 0 then [] else [((k : Int), l.getD k 0)])

theorem pairsTo_length (l : List Int) : ∀ k, (pairsTo l k).length ≤ k
  | 0 => by simp [pairsTo]
  | k + 1 => by
    have := pairsTo_length l k
    simp only [pairsTo, List.length_append]
    split <;> simp <;> omega

theorem pairsTo_skip (l : List Int) (k : Nat) (x : Int) (hx : l.getD k 0 = x) (h : x = 0) : pairsTo l (k + 1) = pairsTo l k := by simp only [pairsTo]; rw [if_pos (hx.trans h)]; simp
theorem pairsTo_take (l : List Int) (k : Nat) (x : Int) (hx : l.getD k 0 = x) (h : ¬ x = 0) : pairsTo l (k + 1) = pairsTo l k ++ [((k : Int), x)] := by simp only [pairsTo]; rw [if_neg (by rw [hx]; exact h), hx]

/-- Bs is the box of what All goes over: a row of its own, g, with the numbers l. -/
def IsAll (w : World) (Bs g : Nat) (l : List Int) : Prop :=
  g < w.heap.size ∧ Bs < w.heap.size ∧ w.cell? ⟨Bs, 0, none⟩ = some (.slice (some ⟨g, 0, none⟩) l.length l.length) ∧ ∀ t, t < l.length → w.cell? ⟨g, t, none⟩ = some (.int .i64 (l.getD t 0))

theorem IsAll.below {w w' : World} {Bs g : Nat} {l : List Int} (h : IsAll w Bs g l) (hb : Below w.heap.size w w') : IsAll w' Bs g l :=
  ⟨Nat.lt_of_lt_of_le h.1 hb.size, Nat.lt_of_lt_of_le h.2.1 hb.size, (hb.cell (p := ⟨Bs, 0, none⟩) h.2.1).trans h.2.2.1, fun t ht => (hb.cell (p := ⟨g, t, none⟩) h.1).trans (h.2.2.2 t ht)⟩

/-- What a round of a loop over All must keep: the row of the numbers. -/
def KeepsRow (g : Nat) (W W' : World) : Prop := W'.heap[g]? = W.heap[g]?
theorem keepsRow_t {g : Nat} {A B C : World} (h : KeepsRow g A B) (k : KeepsRow g B C) : KeepsRow g A C := Eq.trans k h
theorem keepsRow_b {g n : Nat} (hg : g < n) (W : World) (l : Nat) (o o' : Obj) (hl : n ≤ l) (_ : W.heap[l]? = some o) (_ : o.isCells = false) (_ : o.isWalk = false) : KeepsRow g W (W.putObj l o') := by
  unfold KeepsRow World.putObj
  simp only [Array.getElem?_setIfInBounds]
  rw [if_neg (by omega)]

theorem KeepsRow.cell {g t : Nat} {W W' : World} (h : KeepsRow g W W') : W'.cell? ⟨g, t, none⟩ = W.cell? ⟨g, t, none⟩ := World.cell?_of_block (w := W) (a := ⟨g, t, none⟩) h

/-- The numbers together, as an int adds them. -/
def sumW (ps : List (Int × Int)) : Int := ps.foldl (fun s p => wrap64 (s + p.2)) 0
theorem sumW_snoc (ps : List (Int × Int)) (x : Int × Int) : sumW (ps ++ [x]) = wrap64 (sumW ps + x.2) := by simp [sumW]

end Go.Proofs.YtndhkbmgpjjepaaDoor

/- Memory laws for rows and boxes side by side; Sum in plain numbers; the laws' Pairs. Own work; no statement. -/
set_option linter.unusedSimpArgs false
set_option linter.unusedVariables false
namespace Go.Proofs.YtndhkbmgpjjepaaDoor
open Go.RowKit Go.Shelf

attribute [local go_sem] Oper.semAt_some

theorem ownsRow_slice {W : World} {base : Nat} {e : TypeId} {size : Nat} {v : Value} {n : Nat} {xs : List Value} (h : W.ownsRow base e size v n xs) : ∃ a cap, v = .slice a n cap := by
  rcases h.2 with ⟨rfl, rfl⟩ | ⟨g, cap, cur, rfl, _⟩
  · exact ⟨_, _, rfl⟩
  · exact ⟨_, _, rfl⟩
theorem ownsRow_of_heap {W W' : World} {base : Nat} {e : TypeId} {size : Nat} {v : Value} {n : Nat} {xs : List Value} (h : W.ownsRow base e size v n xs) (hk : ∀ k, v.ownBlock = some k → W'.heap[k]? = W.heap[k]?) : W'.ownsRow base e size v n xs := by
  refine ⟨h.1, ?_⟩
  rcases h.2 with hn | ⟨g, cap, cur, rfl, hb, hgg, rest⟩
  · exact .inl hn
  · exact .inr ⟨g, cap, cur, rfl, hb, (hk g rfl).trans hgg, rest⟩
theorem ownsRow_low {W : World} {B B' : Nat} {e : TypeId} {size : Nat} {v : Value} {n : Nat} {xs : List Value} (h : W.ownsRow B e size v n xs) (hB : B' ≤ B) : W.ownsRow B' e size v n xs := by
  refine ⟨h.1, ?_⟩
  rcases h.2 with hn | ⟨g, cap, cur, rfl, hb, rest⟩
  · exact .inl hn
  · exact .inr ⟨g, cap, cur, rfl, Nat.le_trans hB hb, rest⟩
theorem boxed_of_heap {W W' : World} {B : Nat} {t : TypeId} {v : Value} (h : Boxed W B t v) (hk : W'.heap[B]? = W.heap[B]?) : Boxed W' B t v := hk.trans h
/-- Behind 'x = append(x, ..)' by way of x's box B: every other block is as it was. -/
theorem app_other {W w1 : World} {tmp : Obj} {row : Option Nat} {B : Nat} {v' : Value} (hgrow : (W.alloc tmp).grownBy w1 row) (k : Nat) (hk : k < W.heap.size) (hne : some k ≠ row) (hB : k ≠ B) : (w1.setCell ⟨B, 0, none⟩ v').heap[k]? = W.heap[k]? :=
  (Below.heap_setCell _ _ _ _ hB).trans ((hgrow.block k (by simp; omega) hne).trans (Below.heap_alloc _ _ _ hk))
theorem own_keeps {X Y : World} {row : Option Nat} (hg : X.grownBy Y row) (hrow : ∀ r, row = some r → ∃ o : Obj, X.heap[r]? = some o ∧ o.isCells = false) {k : Nat} {c : Array Value} {t : TypeId} {fr : Nat × Nat} (h : X.heap[k]? = some (.cells c t fr)) : Y.heap[k]? = X.heap[k]? := by
  refine hg.block k (Array.getElem?_eq_some_iff.1 h).1 (fun e => ?_)
  obtain ⟨o, ho, hc⟩ := hrow k e.symm
  rw [h] at ho
  cases ho
  cases hc
theorem boxed_own' {X Y : World} {row : Option Nat} (hg : X.grownBy Y row) (hrow : ∀ r, row = some r → ∃ o : Obj, X.heap[r]? = some o ∧ o.isCells = false) {B : Nat} {t : TypeId} {v : Value} (h : Boxed X B t v) : Boxed Y B t v := (own_keeps hg hrow h).trans h
theorem ownsRow_own' {X Y : World} {row : Option Nat} (hg : X.grownBy Y row) (hrow : ∀ r, row = some r → ∃ o : Obj, X.heap[r]? = some o ∧ o.isCells = false) {base : Nat} {e : TypeId} {size : Nat} {v : Value} {n : Nat} {xs : List Value} (h : X.ownsRow base e size v n xs) : Y.ownsRow base e size v n xs := by
  refine ownsRow_of_heap h (fun k hk => ?_)
  rcases h.2 with ⟨rfl, _⟩ | ⟨g, cap, cur, rfl, hb, hgg, rest⟩
  · cases hk
  · obtain rfl : g = k := by simpa [Value.ownBlock] using hk
    exact own_keeps hg hrow hgg

/-- Two boxes side by side, each with a slice that owns a row of its own, and the rows are two. -/
def Two (W : World) (n₀ : Nat) (t e : TypeId) (c c' : Nat) (v v' : Value) (n n' : Nat) (xs ys : List Value) : Prop :=
  Boxed W c t v ∧ Boxed W c' t v' ∧ W.ownsRow n₀ e 1 v n xs ∧ W.ownsRow n₀ e 1 v' n' ys ∧ ∀ k, v.ownBlock = some k → v'.ownBlock ≠ some k
theorem Two.symm {W : World} {n₀ : Nat} {t e : TypeId} {c c' : Nat} {v v' : Value} {n n' : Nat} {xs ys : List Value} (h : Two W n₀ t e c c' v v' n n' xs ys) : Two W n₀ t e c' c v' v n' n ys xs :=
  ⟨h.2.1, h.1, h.2.2.2.1, h.2.2.1, fun k h1 h2 => h.2.2.2.2 k h2 h1⟩
theorem Two.own {X Y : World} {row : Option Nat} (hg : X.grownBy Y row) (hrow : ∀ r, row = some r → ∃ o : Obj, X.heap[r]? = some o ∧ o.isCells = false) {n₀ : Nat} {t e : TypeId} {c c' : Nat} {v v' : Value} {n n' : Nat} {xs ys : List Value} (h : Two X n₀ t e c c' v v' n n' xs ys) : Two Y n₀ t e c c' v v' n n' xs ys :=
  ⟨boxed_own' hg hrow h.1, boxed_own' hg hrow h.2.1, ownsRow_own' hg hrow h.2.2.1, ownsRow_own' hg hrow h.2.2.2.1, h.2.2.2.2⟩
/-- 'x = append(x, y)', x the one of the two. -/
theorem Two.app {W w1 : World} {n₀ : Nat} {t e : TypeId} {c c' : Nat} {v v' u : Value} {n n' m : Nat} {xs ys zs : List Value} {tmp : Obj} (h : Two W n₀ t e c c' v v' n n' xs ys) (hte : t ≠ e) (hcc : c ≠ c') (hn₀ : n₀ ≤ W.heap.size) (hc : n₀ ≤ c)
    (hown : w1.ownsRow n₀ e 1 u m zs) (hgrow : (W.alloc tmp).grownBy w1 v.ownBlock) (hat : u.ownBlock = v.ownBlock ∨ u.ownBlock = some (W.alloc tmp).heap.size) :
    Boxed w1 c t v ∧ Two (w1.setCell ⟨c, 0, none⟩ u) n₀ t e c c' u v' m n' zs ys ∧ KeepsOthers W (w1.setCell ⟨c, 0, none⟩ u) ∧ Below n₀ W (w1.setCell ⟨c, 0, none⟩ u) ∧ W.heap.size ≤ w1.heap.size ∧
      Hid (∀ b t' z, Boxed W b t' z → t' ≠ e → b ≠ c → Boxed (w1.setCell ⟨c, 0, none⟩ u) b t' z) := by
  obtain ⟨ba, bb, ra, rb, hap⟩ := h
  obtain ⟨h1, h2, h3, h4, h5⟩ := ba.appended hte ra hn₀ hc hown hgrow
  refine ⟨h1, ⟨h2, boxed_of_heap bb (app_other hgrow c' bb.lt (bb.not_row hte ra) (fun e => hcc e.symm)), h3, ownsRow_of_heap rb (fun k hk => app_other hgrow k (rb.lt k hk).2 (fun e => hap k e.symm hk) (fun e => ba.not_row hte rb (by rw [hk, e]))), fun k h6 h7 => ?_⟩, h4, h5, ?_, fun b t' z hb ht hbc => boxed_of_heap hb (app_other hgrow b hb.lt (hb.not_row ht ra) hbc)⟩
  case refine_2 => have := hgrow.size; simp at this; omega
  rcases hat with e | e
  · exact hap k (e ▸ h6) h7
  · have := (rb.lt k h7).2
    rw [h6] at e
    simp at e
    omega
/-- The numbers that All tells, added: those of the vector. -/
theorem sum_pairsTo (l : List Int) (h : ∀ x ∈ l, 0 ≤ x ∧ x ≤ 1099511627776) (hl : l.length ≤ 1048576) : ∀ k, k ≤ l.length → sumW (pairsTo l k) = (l.take k).sum ∧ 0 ≤ (l.take k).sum ∧ (l.take k).sum ≤ 1099511627776 * k
  | 0, _ => by simp [pairsTo, sumW]
  | k + 1, hk => by
    obtain ⟨h1, h2, h3⟩ := sum_pairsTo l h hl k (by omega)
    have hx := h (l.getD k 0) (by rw [List.getD, List.getElem?_eq_getElem (by omega)]; exact List.getElem_mem _)
    have hs : (l.take (k + 1)).sum = (l.take k).sum + l.getD k 0 := by rw [take_snoc_getD l k (by omega)]; simp
    have hk3 : (1099511627776 : Int) * ((k + 1 : Nat) : Int) = 1099511627776 * (k : Int) + 1099511627776 := by omega
    rw [hs, hk3]
    refine ⟨?_, by omega, by omega⟩
    simp only [pairsTo]
    split
    · rename_i h0
      rw [List.append_nil, h1, h0]
      omega
    · rw [sumW_snoc, h1]
      unfold wrap64
      omega

end Go.Proofs.YtndhkbmgpjjepaaDoor

/- A range over a function whose iterator keeps a variable of its own in memory: what it does between two rounds is told by a relation E, which the caller's invariant must abide. Own work; no statement. -/
set_option linter.unusedSimpArgs false
set_option linter.unusedVariables false
namespace Go.Proofs.YtndhkbmgpjjepaaDoor
open Go.RowKit Go.Shelf

section
variable {α : Type} {P : Program} {n : Nat}

/-- The iterator's contract: as the library's, but that the caller's word abides the iterator's own steps E. -/
def SeqE (n : Nat) (P : Program) (g : Nat) (lb : Array Value) (encs : α → Array Value) (Kp E : World → World → Prop) (S Sp : List α → Prop) (N : Nat) (w : World) : Prop :=
  ∀ (l : Nat) (J Jx : List α → World → Prop) (W : World), Below w.heap.size w W → (∀ pre A B, J pre A → E A B → J pre B) → (∀ pre A B, Jx pre A → E A B → Jx pre B) →
    (∀ pre x A, J pre A → pre.length < N → YieldAt Fence.wide (n - 1) P l (encs x) A fun e B => (e = .returned (.bool true) ∧ J (pre ++ [x]) B ∧ Kp A B) ∨ (e = .returned (.bool false) ∧ Jx (pre ++ [x]) B)) →
    J [] W → CallsIn Fence.wide n P g (#[.func (.yield l) #[] #[]] ++ lb) W fun e B => (∃ v, e = .returned v) ∧ ((∃ xs, S xs ∧ J xs B) ∨ (∃ pre, Sp pre ∧ Jx pre B))

/-- The two blocks that a loop's own book-keeping lays: the record at D + 1, the rounds' deferred calls at D. -/
def Book (D : Nat) (r : Loop) (W : World) : Prop := W.heap[D + 1]? = some (.loop r) ∧ W.heap[D]? = some (.deferred (some []))
theorem Book.put {D : Nat} {r : Loop} {W : World} (h : Book D r W) (r' : Loop) : Book D r' (W.putObj (D + 1) (.loop r')) :=
  ⟨World.putObj_heap_same (Array.getElem?_eq_some_iff.1 h.1).1, (World.putObj_heap_other (by omega)).trans h.2⟩
theorem Book.from {D B : Nat} {r : Loop} {W W' : World} (h : Book D r W) (hB : B ≤ D) (hk : KeepsFrom B W W') : Book D r W' := ⟨hk.same _ _ (by omega) h.1 rfl, hk.same _ _ hB h.2 rfl⟩

/-- How a round ends: it goes on, or it is left by a jump. -/
def jumpOf : Exit → Option Code
  | .ret => some .ret
  | .exit id => some (.exit id)
  | .goto t => some (.goto t)
  | _ => none

theorem round_end {D : Nat} {r : Loop} {W W' : World} (hb : Book D r W) (jump : Option Code) (hk : KeepsFrom D W W') :
    (Instr.endRound (D + 1) jump).run P W' = .ok (.bool jump.isNone) (W'.putObj (D + 1) (.loop { r with state := if jump.isNone then .ready else .done, pending := jump })) ∧
    W'.heap[D + 1]? = some (.loop r) ∧ Book D { r with state := if jump.isNone then .ready else .done, pending := jump } (W'.putObj (D + 1) (.loop { r with state := if jump.isNone then .ready else .done, pending := jump })) :=
  have hb' := hb.from (Nat.le_refl _) hk
  ⟨run_endRound jump hb'.1, hb'.1, hb'.put _⟩

theorem range_law {g : Operand} {ps : Array Tmp} {assign body : Code} {Q : Exit → Act → World → Prop} {a : Act} {w : World} (h1 : 1 ≤ n) {gf : Nat} {lb : Array Value} (hg : a.eval g = .func (.func gf) #[] lb)
    (eg : ∀ args w, (callFunc gf args).run P w = .ok (.enter gf args) w) {encs : α → Array Value} {Kp E : World → World → Prop} {S Sp : List α → Prop} {N : Nat} (hseq : SeqE (n - 1) P gf lb encs Kp E S Sp N w)
    (hKt : ∀ {A B C : World}, Kp A B → Kp B C → Kp A C) (hKb : ∀ (W : World) (l : Nat) (o o' : Obj), w.heap.size ≤ l → W.heap[l]? = some o → o.isCells = false → o.isWalk = false → Kp W (W.putObj l o'))
    (hE : ∀ A B, E A B → KeepsFrom w.heap.size A B) (hps : ∀ x, (encs x).size = ps.size)
    (I : List α → World → Prop) (Ix : Code → List α → World → Prop) (hI : OwnFrom w.heap.size I) (hIx : ∀ c, OwnFrom w.heap.size (Ix c)) (hIE : ∀ pre A B, I pre A → E A B → I pre B) (hIxE : ∀ c pre A B, Ix c pre A → E A B → Ix c pre B)
    (h0 : I [] w) (a₁ : α → Act)
    (hassign : ∀ (l : Nat) (x : α) (W : World) (K : Act → World → Prop), K (a₁ x) W →
      assign.wpIn (Fence.wide.inRound l) (n - 1 - 1) P (Exit.then K (fun _ _ _ => False)) { tmps := (ps.zip (encs x)).foldl (fun t (p, v) => t.setIfInBounds p v) a.tmps, defers := [] } W)
    (hbody : ∀ (l : Nat) (pre : List α) (x : α) (W : World), I pre W → pre.length < N → body.wpIn (Fence.wide.inRound l) (n - 1 - 1) P (ownPostG w.heap.size Kp I Ix (pre ++ [x]) W) (a₁ x) W)
    (hdone : ∀ (D : Nat) (xs : List α) (W : World), w.heap.size ≤ D → S xs → I xs W → W.heap[D]? = some (.deferred (some [])) → Q .normal { a with defers := { target := .collected D, args := #[] } :: a.defers } W)
    (hstop : ∀ (D : Nat) (c : Code) (pre : List α) (W : World), w.heap.size ≤ D → Sp pre → Ix c pre W → W.heap[D]? = some (.deferred (some [])) → c.wpIn Fence.wide n P Q { a with defers := { target := .collected D, args := #[] } :: a.defers } W) :
    (Code.rangeFunc g ps assign body).wpIn Fence.wide n P Q a w := by
  refine wpIn_rangeFunc fun fn _ => ?_
  generalize hD : w.heap.size = D at *
  let r : Loop := { state := .ready, pending := none, fn, tmps := a.tmps, params := ps, assign, body, defers := D }
  let w1 : World := (w.alloc (.deferred (some []))).alloc (.loop r)
  have bk1 : Book D r w1 := by
    refine ⟨?_, ?_⟩
    · have := World.alloc_heap_new (w.alloc (.deferred (some []))) (.loop r)
      rwa [World.size_alloc, hD] at this
    · have := World.alloc_heap_new w (.deferred (some []))
      rw [hD] at this
      exact (Below.heap_alloc _ _ _ (by simp; omega)).trans this
  have i1 : I [] w1 := hI.alloc _ (hI.alloc _ h0)
  have b1 : Below w.heap.size w w1 := ((Below.refl _ w).alloc (Nat.le_refl _) _).alloc (by simp) _
  refine ⟨D + 1, [{ target := .collected D, args := #[] }], w1, { target := .fn (.func gf) lb, args := #[.func (.yield (D + 1)) #[] #[]] }, w1, gf, #[.func (.yield (D + 1)) #[] #[]] ++ lb, w1, ?_, ?_, fun _ _ => trivial, ?_, fun _ => h1, ?_⟩
  · rw [← hD]
    have := run_enterLoop_outer (P := P) (w := w) fn a.tmps ps assign body
    simp only [w1, r, ← hD]
    exact this
  · simp only [resolve, hg]
    simp [go_sem]
  · simp [invoke, go_sem, eg]
  · refine (hseq (D + 1) (fun pre W => I pre W ∧ Book D r W) (fun pre W => ∃ c, Ix c pre W ∧ Book D { r with state := .done, pending := some c } W) w1 b1
      (fun pre A B h e => ⟨hIE pre A B h.1 e, h.2.from (Nat.le_refl _) (hE A B e)⟩)
      (fun pre A B h e => let ⟨c, hc, hb⟩ := h; ⟨c, hIxE c pre A B hc e, hb.from (Nat.le_refl _) (hE A B e)⟩) ?_ ⟨i1, bk1⟩).mono ?_
    · rintro pre x W ⟨hi, hb⟩ hlen
      refine ⟨fn, _, assign, body, run_yield hb.1 (hps x), roundIn_of_wpIn trivial (hassign _ x W _ ⟨_, run_beginRound hb.1 rfl, ?_⟩)⟩
      have hb2 := hb.put { r with state := .busy }
      have k2 : Kp W (W.putObj (D + 1) (.loop { r with state := .busy })) := hKb _ _ _ _ (by omega) hb.1 rfl rfl
      refine wpIn_mono (hbody _ pre x _ (hI.putObj _ hi (by omega) hb.1 rfl) hlen) fun e a3 W3 hp => ?_
      have left : ∀ c, KeepsFrom D (W.putObj (D + 1) (.loop { r with state := .busy })) W3 → Ix c (pre ++ [x]) W3 → ∃ v W4, (Instr.endRound (D + 1) (some c)).run P W3 = .ok v W4 ∧ ((Ending.returned v = .returned (.bool true) ∧ (I (pre ++ [x]) W4 ∧ Book D r W4) ∧ Kp W W4) ∨ (Ending.returned v = .returned (.bool false) ∧ ∃ c, Ix c (pre ++ [x]) W4 ∧ Book D { r with state := .done, pending := some c } W4)) := fun c hk hi3 => by
        obtain ⟨hr, hl, hb4⟩ := round_end (P := P) hb2 (some c) hk
        exact ⟨_, _, hr, .inr ⟨rfl, c, (hIx c).putObj _ hi3 (by omega) hl rfl, hb4⟩⟩
      cases e with
      | normal =>
        obtain ⟨hk, hkp, hi3⟩ := hp
        obtain ⟨hr, hl, hb4⟩ := round_end (P := P) hb2 none hk
        exact ⟨_, _, hr, .inl ⟨rfl, ⟨hI.putObj _ hi3 (by omega) hl rfl, hb4⟩, hKt (hKt k2 hkp) (hKb _ _ _ _ (by omega) hl rfl rfl)⟩⟩
      | ret => exact left _ hp.1 hp.2
      | exit id => exact left _ hp.1 hp.2
      | goto t => exact left _ hp.1 hp.2
      | panic _ => exact hp.elim
      | outgrown => exact hp.elim
    · rintro e W2 ⟨⟨v, rfl⟩, (⟨xs, hS, hi, hb⟩ | ⟨pre, hSp, c, hi, hb⟩)⟩
      · exact ⟨none, _, run_endLoop hb.1 (by simp [r]), hdone _ xs _ (Nat.le_refl _) hS (hI.putObj _ hi (by omega) hb.1 rfl) (hb.put _).2⟩
      · exact ⟨some c, _, run_endLoop hb.1 (by simp), hstop _ c pre _ (Nat.le_refl _) hSp ((hIx c).putObj _ hi (by omega) hb.1 rfl) (hb.put _).2⟩
end

end Go.Proofs.YtndhkbmgpjjepaaDoor

/- strings.SplitSeq at a blank: the pieces of a text, as long as they are asked. Own work; no statement. -/
set_option linter.unusedSimpArgs false
set_option linter.unusedVariables false
namespace Go.Proofs.YtndhkbmgpjjepaaDoor
open Go.RowKit Go.Shelf

attribute [local go_sem] Oper.semAt_some

/-- The pieces of a text between blanks. -/
def splitL : List UInt8 → List (List UInt8)
  | [] => [[]]
  | c :: r => if c = 32 then [] :: splitL r else
    match splitL r with
    | [] => [[c]]
    | x :: xs => (c :: x) :: xs

theorem splitL_ne (l : List UInt8) : splitL l ≠ [] := by
  cases l with
  | nil => simp [splitL]
  | cons c r =>
    simp only [splitL]
    split
    · simp
    · split <;> simp

theorem splitL_none : ∀ (l : List UInt8), Lib.indexByte l 32 = -1 → splitL l = [l]
  | [], _ => rfl
  | c :: r, h => by
    simp only [Lib.indexByte] at h
    by_cases hc : c = 32
    · subst hc; simp at h
    · have hc' : (c == 32) = false := by simp [hc]
      rw [hc'] at h
      simp only [Bool.false_eq_true, if_false] at h
      have hr : Lib.indexByte r 32 = -1 := by
        by_cases e : Lib.indexByte r 32 = -1
        · exact e
        · have e' : (Lib.indexByte r 32 == -1) = false := by simp [e]
          rw [e'] at h
          simp only [Bool.false_eq_true, if_false] at h
          have := Lib.indexByte_ge r 32
          omega
      simp only [splitL]
      rw [if_neg hc, splitL_none r hr]

theorem splitL_some : ∀ (l : List UInt8) (i : Nat), Lib.indexByte l 32 = i → i < l.length ∧ splitL l = l.take i :: splitL (l.drop (i + 1))
  | [], i, h => by simp [Lib.indexByte] at h
  | c :: r, i, h => by
    simp only [Lib.indexByte] at h
    by_cases hc : c = 32
    · subst hc
      simp at h
      have h0 : i = 0 := by omega
      subst h0
      simp [splitL]
    · have hc' : (c == 32) = false := by simp [hc]
      rw [hc'] at h
      simp only [Bool.false_eq_true, if_false] at h
      by_cases e : Lib.indexByte r 32 = -1
      · rw [e] at h; simp at h
      · have e' : (Lib.indexByte r 32 == -1) = false := by simp [e]
        rw [e'] at h
        simp only [Bool.false_eq_true, if_false] at h
        have := Lib.indexByte_ge r 32
        cases i with
        | zero => omega
        | succ i =>
          obtain ⟨h1, h2⟩ := splitL_some r i (by omega)
          refine ⟨by simp; omega, ?_⟩
          simp only [splitL]
          rw [if_neg hc, h2]
          simp

set_option maxHeartbeats 400000 in
theorem splitSeq_calls (s : ByteArray) (w : World) :
    Calls Tryd.prog 37 #[.string s, .string ⟨#[32]⟩] w fun e w' => e = .returned (.func (.func 49) #[] #[.pointer (some ⟨w.heap.size + 1, 0, none⟩), .pointer (some ⟨w.heap.size, 0, none⟩), .pointer (some ⟨w.heap.size + 2, 0, none⟩)]) ∧
      w' = ((w.alloc (.cells #[.string s] 9)).alloc (.cells #[.string ⟨#[32]⟩] 9)).alloc (.cells #[.int .i64 0] 3) := by
  have hmf : ∀ (fn : Fn) (first cap : Array Value) (w : World), (Instr.makeFunc fn first cap).run Tryd.prog w = .ok (.func fn first cap) w := fun _ _ _ _ => rfl
  go_enter Tryd.func37, Tryd.ntmps37
  go_wp2
  go_ret
  exact ⟨rfl, rfl⟩

/-- A text that is not too long for any count. -/
abbrev Word : Type := { x : List UInt8 // x.length ≤ 1099511627776 }

/-- The three boxes that the sequence goes by. -/
def IsSplit (W : World) (b : Nat) (s : List UInt8) : Prop := Boxed W b 9 (.string ⟨s.toArray⟩) ∧ Boxed W (b + 1) 9 (.string ⟨#[32]⟩) ∧ Boxed W (b + 2) 3 (.int .i64 0)
def KeepsThree (b : Nat) (W W' : World) : Prop := W'.heap[b]? = W.heap[b]? ∧ W'.heap[b + 1]? = W.heap[b + 1]? ∧ W'.heap[b + 2]? = W.heap[b + 2]?
theorem keepsThree_t {b : Nat} {A B C : World} (h : KeepsThree b A B) (k : KeepsThree b B C) : KeepsThree b A C := ⟨k.1.trans h.1, k.2.1.trans h.2.1, k.2.2.trans h.2.2⟩
theorem keepsThree_b {b n : Nat} (hg : b + 2 < n) (W : World) (l : Nat) (o o' : Obj) (hl : n ≤ l) (h1 : W.heap[l]? = some o) (h2 : o.isCells = false) (h3 : o.isWalk = false) : KeepsThree b W (W.putObj l o') :=
  ⟨keepsRow_b (by omega) W l o o' hl h1 h2 h3, keepsRow_b (by omega) W l o o' hl h1 h2 h3, keepsRow_b hg W l o o' hl h1 h2 h3⟩
theorem IsSplit.keep {b : Nat} {W W' : World} {s : List UInt8} (h : IsSplit W b s) (k : KeepsThree b W W') : IsSplit W' b s := ⟨k.1.trans h.1, k.2.1.trans h.2.1, k.2.2.trans h.2.2⟩
theorem IsSplit.set {b : Nat} {W : World} {s : List UInt8} (h : IsSplit W b s) (s' : List UInt8) : IsSplit (W.setCell ⟨b, 0, none⟩ (.string ⟨s'.toArray⟩)) b s' :=
  ⟨h.1.set _, boxed_of_heap h.2.1 (Below.heap_setCell _ _ _ _ (show b + 1 ≠ b by omega)), boxed_of_heap h.2.2 (Below.heap_setCell _ _ _ _ (show b + 2 ≠ b by omega))⟩

def strLen (W : World) (b : Nat) : Nat := match W.cell? ⟨b, 0, none⟩ with | some (.string s) => s.size | _ => 0
theorem strLen_of {W : World} {b : Nat} {s : List UInt8} (h : IsSplit W b s) : strLen W b = s.length := by
  unfold strLen
  rw [h.1.cell]
  simp [ByteArray.size]

theorem extract_list (l : List UInt8) (i j : Nat) : (⟨l.toArray⟩ : ByteArray).extract i j = ⟨((l.drop i).take (j - i)).toArray⟩ := by
  apply ByteArray.ext
  simp [ByteArray.data_extract]
theorem extract_head (l : List UInt8) (i : Nat) : (⟨l.toArray⟩ : ByteArray).extract 0 i = ⟨(l.take i).toArray⟩ := by rw [extract_list]; simp
theorem extract_tail (l : List UInt8) (i j : Nat) (h : j = l.length) : (⟨l.toArray⟩ : ByteArray).extract i j = ⟨(l.drop i).toArray⟩ := by rw [extract_list, h, List.take_of_length_le (by simp)]

set_option maxRecDepth 100000 in
set_option maxHeartbeats 2000000 in
theorem split1_in (n : Nat) (hn : 1 ≤ n) (lp b : Nat) (s : List UInt8) (hlen : s.length ≤ 1099511627776) (J Jx : List Word → World → Prop)
    (hJ : ∀ pre A v, J pre A → J pre (A.setCell ⟨b, 0, none⟩ v))
    (hY : ∀ pre x W, J pre W → pre.length < (splitL s).length → YieldAt Fence.wide (n - 1) Tryd.prog lp #[.string ⟨x.1.toArray⟩] W fun e W' =>
      (e = .returned (.bool true) ∧ J (pre ++ [x]) W' ∧ KeepsThree b W W') ∨ (e = .returned (.bool false) ∧ Jx (pre ++ [x]) W'))
    (W : World) (hA : IsSplit W b s) (h0 : J [] W) :
    CallsIn Fence.wide n Tryd.prog 49 #[.func (.yield lp) #[] #[], .pointer (some ⟨b + 1, 0, none⟩), .pointer (some ⟨b, 0, none⟩), .pointer (some ⟨b + 2, 0, none⟩)] W fun e W' => (∃ v, e = .returned v) ∧
      ((∃ ys, ys.map (·.1) = splitL s ∧ J ys W') ∨ (∃ pre, pre.map (·.1) <+: splitL s ∧ Jx pre W')) := by
  refine callsIn_of_wp Tryd.func49 rfl trivial ?_ rfl
  simp only [Tryd.ntmps49, List.size_toArray, List.length_cons, List.length_nil, Nat.reduceAdd, Nat.reduceSub, Array.replicate_succ, Array.replicate_zero, List.push_toArray, List.append_toArray, List.nil_append, List.cons_append]
  have HY := hide hY
  have HJ := hide hJ
  clear hY hJ
  have q1 := hA.2.1.cell
  gi_wp2
  gi_loopw [7] (fun _ wr => ∃ (pre : List Word) (rest : List UInt8), splitL s = pre.map (·.1) ++ splitL rest ∧ rest.length ≤ 1099511627776 ∧ IsSplit wr b rest ∧ J pre wr) (fun _ wr => strLen wr b)
  case atStart => exact ⟨[], s, rfl, hlen, hA, h0⟩
  case round =>
    obtain ⟨pre, rest, hs, hl, hI, hJs⟩ := hrel
    replace hs := hide hs
    clear q1
    have c1 := hI.1.cell
    have c2 := hI.2.1.cell
    have c3 := hI.2.2.cell
    have f1 := hI.1.frozen
    by_cases hi : Lib.indexByte rest 32 = -1
    · have hsp := hide (splitL_none rest hi)
      have HI := hide hi
      clear hi
      obtain ⟨fn, tmps, assign, body, hy, hR⟩ := HY.out pre ⟨rest, hl⟩ wr hJs (by rw [hs.out, hsp.out]; simp)
      dsimp only at hy
      gi_wp2_with (refine ⟨trivial, ?_⟩; gi_at_call 51; refine ((callsIn_wide (n := _)).2 (Tryd.strings_Index_one ⟨rest.toArray⟩ 32 wr)).mono ?_; rintro e w' ⟨rfl, rfl⟩; rw [show (⟨rest.toArray⟩ : ByteArray).data.toList = rest from rfl, HI.out])
      refine hR.mono ?_
      rintro e W3 (⟨rfl, hJ3, hk3⟩ | ⟨rfl, hJx3⟩)
      · gi_wp2
        go_end0
        exact ⟨⟨_, rfl⟩, .inl ⟨_, by rw [hs.out, hsp.out]; simp, hJ3⟩⟩
      · gi_wp2
        go_end0
        exact ⟨⟨_, rfl⟩, .inr ⟨_, by rw [hs.out, hsp.out]; simp, hJx3⟩⟩
    · have hge := Lib.indexByte_ge rest 32
      obtain ⟨i, hi'⟩ := Int.eq_ofNat_of_zero_le (show 0 ≤ Lib.indexByte rest 32 by omega)
      obtain ⟨hil, hsp⟩ := splitL_some rest i hi'
      replace hsp := hide hsp
      have HI := hide hi'
      clear hi hi' hge
      have hilI : (i : Int) < (rest.length : Int) := by omega
      have hx1 := extract_head rest i
      obtain ⟨fn, tmps, assign, body, hy, hR⟩ := HY.out pre ⟨rest.take i, by rw [List.length_take]; omega⟩ wr hJs (by rw [hs.out, hsp.out]; simp)
      dsimp only at hy
      gi_wp2_with (refine ⟨trivial, ?_⟩; gi_at_call 51; refine ((callsIn_wide (n := _)).2 (Tryd.strings_Index_one ⟨rest.toArray⟩ 32 wr)).mono ?_; rintro e w' ⟨rfl, rfl⟩; rw [show (⟨rest.toArray⟩ : ByteArray).data.toList = rest from rfl, HI.out])
      gi_wp2
      refine hR.mono ?_
      rintro e W3 (⟨rfl, hJ3, hk3⟩ | ⟨rfl, hJx3⟩)
      · have hI3 := hI.keep hk3
        have d1 := hI3.1.cell
        have d2 := hI3.2.1.cell
        have d4 := hI3.1.frozen
        gi_wp2
        rw [extract_tail rest (i + 1) rest.length rfl]
        have hI4 := hI3.set (rest.drop (i + 1))
        exact ⟨⟨_, _, by rw [hs.out, hsp.out, List.map_append, List.append_assoc]; rfl, by simp; omega, hI4, HJ.out _ _ _ hJ3⟩, by rw [strLen_of hI4, strLen_of hI]; simp; omega⟩
      · gi_wp2
        refine bodyPost_ret (results_none rfl _ _ _) rfl ?_
        exact ⟨⟨_, rfl⟩, .inr ⟨_, by rw [hs.out, hsp.out]; exact ⟨splitL (rest.drop (i + 1)), by simp⟩, hJx3⟩⟩

/-- The iterator's own steps: it writes its own variable, box b. -/
def Turns (b : Nat) (A B : World) : Prop := ∃ v, B = A.setCell ⟨b, 0, none⟩ v

theorem split_stops (n : Nat) (hn : 1 ≤ n) (b : Nat) (s : List UInt8) (hlen : s.length ≤ 1099511627776) (w : World) (hA : IsSplit w b s) :
    SeqE n Tryd.prog 49 #[.pointer (some ⟨b + 1, 0, none⟩), .pointer (some ⟨b, 0, none⟩), .pointer (some ⟨b + 2, 0, none⟩)] (fun x : Word => #[Value.string ⟨x.1.toArray⟩]) (KeepsThree b) (Turns b) (fun ys => ys.map (·.1) = splitL s)
      (fun pre => pre.map (·.1) <+: splitL s) (splitL s).length w := fun lp J Jx W hW hJ _ hY h0 =>
  split1_in n hn lp b s hlen J Jx (fun pre A v h => hJ pre A _ h ⟨v, rfl⟩) hY W
    ⟨(hW.block b hA.1.lt).trans hA.1, (hW.block (b + 1) hA.2.1.lt).trans hA.2.1, (hW.block (b + 2) hA.2.2.lt).trans hA.2.2⟩ h0

end Go.Proofs.YtndhkbmgpjjepaaDoor

/- num's Decimal and Parse: a number in words. Own work; no statement. -/
set_option linter.unusedSimpArgs false
set_option linter.unusedVariables false
namespace Go.Proofs.YtndhkbmgpjjepaaDoor
open Go.RowKit Go.Shelf

/-- Is it a digit? -/
def digB (c : UInt8) : Bool := decide (48 ≤ c.toNat ∧ c.toNat ≤ 57)
/-- Digits' number, but no more than MaxSeq + 1. -/
def decTo : List UInt8 → Int → Int
  | [], n => n
  | c :: r, n => decTo r (min (n * 10 + ((c.toNat : Int) - 48)) 1048577)
/-- Digits' number, but no more than m + 1. -/
def decToM (m : Int) : List UInt8 → Int → Int
  | [], n => n
  | c :: r, n => decToM m r (min (n * 10 + ((c.toNat : Int) - 48)) (m + 1))
theorem decToM_eq : ∀ (l : List UInt8) (n : Int), decToM 1048576 l n = decTo l n
  | [], _ => rfl
  | _ :: l, _ => decToM_eq l _
theorem decToM_snoc (m : Int) : ∀ (l : List UInt8) (c : UInt8) (n : Int), decToM m (l ++ [c]) n = min (decToM m l n * 10 + ((c.toNat : Int) - 48)) (m + 1)
  | [], _, _ => rfl
  | _ :: l, c, _ => decToM_snoc m l c _
/-- Digits, at least one, without leading noughts. -/
def decOk (l : List UInt8) : Bool := !l.isEmpty && !(decide (1 < l.length) && l.head? == some 48) && l.all digB

theorem decTo_snoc : ∀ (l : List UInt8) (c : UInt8) (n : Int), decTo (l ++ [c]) n = min (decTo l n * 10 + ((c.toNat : Int) - 48)) 1048577
  | [], _, _ => rfl
  | _ :: l, c, _ => decTo_snoc l c _

theorem decTo_range : ∀ (l : List UInt8) (n : Int), (∀ c ∈ l, digB c = true) → 0 ≤ n → n ≤ 1048577 → 0 ≤ decTo l n ∧ decTo l n ≤ 1048577
  | [], n, _, h0, h1 => ⟨h0, h1⟩
  | c :: l, n, h, h0, h1 => by
    have hc := h c (by simp)
    simp only [digB, decide_eq_true_eq] at hc
    exact decTo_range l _ (fun d hd => h d (by simp [hd])) (by omega) (by omega)

theorem decToM_range {m : Int} (hm : 0 ≤ m) : ∀ (l : List UInt8) (n : Int), (∀ c ∈ l, digB c = true) → 0 ≤ n → n ≤ m + 1 → 0 ≤ decToM m l n ∧ decToM m l n ≤ m + 1
  | [], n, _, h0, h1 => ⟨h0, h1⟩
  | c :: l, n, h, h0, h1 => by
    have hc := h c (by simp)
    simp only [digB, decide_eq_true_eq] at hc
    exact decToM_range hm l _ (fun d hd => h d (by simp [hd])) (by omega) (by omega)

theorem take_snoc_byte (s : ByteArray) (k : Nat) (h : k < s.size) : s.data.toList.take (k + 1) = s.data.toList.take k ++ [s[k]] := by
  rw [List.take_succ_eq_append_getElem (by simpa using h)]; rfl

theorem decOk_long (s : ByteArray) (h1 : 1 < s.size) (h0 : s[0] = 48) : decOk s.data.toList = false := by
  have : s.data.toList.head? = some 48 := by
    rw [List.head?_eq_getElem?, List.getElem?_eq_getElem (by simpa using (show 0 < s.size by omega))]
    exact congrArg some h0
  have hl : 1 < s.data.toList.length := by simpa using h1
  simp only [decOk, this, hl]
  simp

theorem decOk_not (s : ByteArray) (k : Nat) (h : k < s.size) (hd : digB s[k] = false) : decOk s.data.toList = false := by
  have hm : s[k] ∈ s.data.toList := by
    have : s[k] = s.data.toList[k]'(by simpa using h) := rfl
    rw [this]
    exact List.getElem_mem _
  have : s.data.toList.all digB = false := by
    rw [List.all_eq_false]
    exact ⟨_, hm, by rw [hd]; simp⟩
  simp [decOk, this]

theorem decOk_yes (s : ByteArray) (h0 : 0 < s.size) (h1 : ¬ (1 < s.size ∧ s[0] = 48)) (hall : ∀ c ∈ s.data.toList, digB c = true) : decOk s.data.toList = true := by
  have hne : s.data.toList.isEmpty = false := by
    cases h : s.data.toList with
    | nil => have := Lib.size_eq s; rw [h] at this; simp at this; exact absurd h0 (by rw [this]; exact Nat.lt_irrefl 0)
    | cons _ _ => rfl
  have hh : (decide (1 < s.data.toList.length) && s.data.toList.head? == some 48) = false := by
    rw [Bool.and_eq_false_iff]
    by_cases hl : 1 < s.size
    · right
      rw [List.head?_eq_getElem?, List.getElem?_eq_getElem (by simpa using h0)]
      have : ¬ s[0] = 48 := fun e => h1 ⟨hl, e⟩
      rw [beq_eq_false_iff_ne]
      intro e
      exact this (Option.some.inj e)
    · left
      simp
      have : s.size = s.data.size := rfl
      omega
  have ha : s.data.toList.all digB = true := List.all_eq_true.2 hall
  simp only [decOk, hne, hh, ha]
  rfl

set_option maxHeartbeats 1000000 in
theorem decimalM_calls (m : Int) (s : ByteArray) (w : World) (hm : 0 ≤ m) (hm2 : m ≤ 2147483647) (hs : s.size ≤ 1099511627776) :
    Calls Tryd.prog 53 #[.string s, .int .i64 m] w fun e w' => e = .returned (.tuple #[.int .i64 (if decOk s.data.toList then decToM m s.data.toList 0 else 0), .bool (decOk s.data.toList)]) ∧ w' = w := by
  obtain ⟨n, b, hn, hb⟩ : ∃ n b, (if decOk s.data.toList then decToM m s.data.toList 0 else 0) = n ∧ decOk s.data.toList = b := ⟨_, _, rfl, rfl⟩
  rw [hn, hb]
  have Hn := hide hn
  have Hb := hide hb
  clear hn hb
  by_cases h0 : s.size = 0
  · have e : s = ⟨#[]⟩ := ByteArray.ext (Array.eq_empty_of_size_eq_zero h0)
    subst e
    have e1 : n = 0 := Hn.out.symm
    have e2 : b = false := Hb.out.symm
    subst e1 e2
    go_enter Tryd.func53, Tryd.ntmps53
    go_wp2
    go_ret2
    exact ⟨rfl, rfl⟩
  · have hne : s.toList.isEmpty = false := by
      rw [Lib.toList_data]
      cases h : s.data.toList with
      | nil => have := Lib.size_eq s; rw [h] at this; exact absurd this (by simpa using h0)
      | cons _ _ => rfl
    have h0' : 0 < s.size := by omega
    have h0I : (0 : Int) < (s.size : Int) := by omega
    by_cases h1 : 1 < s.size ∧ s[0] = 48
    · obtain ⟨h1, h2⟩ := h1
      have e := decOk_long s h1 h2
      have e1 : n = 0 := by rw [← Hn.out, e]; rfl
      have e2 : b = false := by rw [← Hb.out, e]
      subst e1 e2
      have h1I : (1 : Int) < (s.size : Int) := by omega
      have h3 : (((s[0].toNat : Nat) : Int) == 48) = true := by rw [h2]; rfl
      clear e h2 h0
      go_enter Tryd.func53, Tryd.ntmps53
      go_wp2
      go_ret2
      exact ⟨rfl, rfl⟩
    · have hcase : ((1 : Int) < (s.size : Int) → (((s[0].toNat : Nat) : Int) == 48) = false) := by
        intro hl
        rw [beq_eq_false_iff_ne]
        intro e
        exact h1 ⟨by omega, UInt8.toNat_inj.1 (by simp; omega)⟩
      have H1 := hide h1
      clear h1 h0
      by_cases hl : (1 : Int) < (s.size : Int)
      case' pos => have hc48 := hcase hl
      all_goals
        clear hcase
        go_enter Tryd.func53, Tryd.ntmps53
        go_wp2
        go_loop [6, 23] (fun x i => ∃ k : Nat, k ≤ s.size ∧ i = .int .i64 (k : Int) ∧ x = .int .i64 (decToM m (s.data.toList.take k) 0) ∧ ∀ c ∈ s.data.toList.take k, digB c = true) (fun _ i => s.size - (intOf i).toNat)
        case atStart => exact ⟨0, Nat.zero_le _, rfl, rfl, by simp⟩
        case round =>
          obtain ⟨k, hk, rfl, rfl, hall⟩ := hrel
          have hr := decToM_range hm _ 0 hall (by omega) (by omega)
          replace hall := hide hall
          by_cases hkl : k < s.size
          · have hlt : (k : Int) < (s.size : Int) := by omega
            have hsn := decToM_snoc m (s.data.toList.take k) s[k] 0
            rw [← take_snoc_byte s k hkl] at hsn
            have hts := hide (take_snoc_byte s k hkl)
            replace hsn := hide hsn
            generalize decToM m (s.data.toList.take k) 0 = x at hr hsn
            obtain ⟨hr0, hr1⟩ := hr
            by_cases hd : 48 ≤ s[k].toNat ∧ s[k].toNat ≤ 57
            · have hd1 : ¬ ((s[k].toNat : Nat) : Int) < 48 := by omega
              have hd2 : ¬ 57 < ((s[k].toNat : Nat) : Int) := by omega
              have hdg := hide (show digB s[k] = true by unfold digB; simpa using hd)
              obtain ⟨hda, hdb⟩ := hd
              go_wp2
              refine ⟨⟨k + 1, by omega, by go_num, by rw [hsn.out], fun c hc => ?_⟩, by simp [intOf]; omega⟩
              rw [hts.out] at hc
              rcases List.mem_append.1 hc with hc | hc
              · exact hall.out c hc
              · rw [List.mem_singleton.1 hc]; exact hdg.out
            · have hno := decOk_not s k hkl (by unfold digB; simpa using hd)
              have e1 : n = 0 := by rw [← Hn.out, hno]; rfl
              have e2 : b = false := by rw [← Hb.out, hno]
              subst e1 e2
              clear hno
              by_cases hd1 : ((s[k].toNat : Nat) : Int) < 48
              · go_wp2
                go_ret2
                exact ⟨rfl, rfl⟩
              · have hd2 : 57 < ((s[k].toNat : Nat) : Int) := by omega
                clear hd
                go_wp2
                go_ret2
                exact ⟨rfl, rfl⟩
          · have e : s.data.toList.take k = s.data.toList := List.take_of_length_le (by rw [← Lib.size_eq]; omega)
            have hy : decOk s.data.toList = true := decOk_yes s h0' H1.out (by have := hall.out; rwa [e] at this)
            have e1 : n = decToM m (s.data.toList.take k) 0 := by rw [← Hn.out, hy, e]; rfl
            have e2 : b = true := by rw [← Hb.out, hy]
            subst e1 e2
            clear hy e
            go_wp2
            go_ret2
            exact ⟨rfl, rfl⟩

theorem decimal_calls (s : ByteArray) (w : World) (hs : s.size ≤ 1099511627776) :
    Calls Tryd.prog 53 #[.string s, .int .i64 1048576] w fun e w' => e = .returned (.tuple #[.int .i64 (if decOk s.data.toList then decTo s.data.toList 0 else 0), .bool (decOk s.data.toList)]) ∧ w' = w := by
  have h := decimalM_calls 1048576 s w (by omega) (by omega) hs
  rw [decToM_eq] at h
  exact h

/-- A number up to 2^31 - 1 in words: the number, and whether it is one. -/
def numL (l : List UInt8) : Int × Bool := if decOk l = true ∧ decToM 2147483647 l 0 ≤ 2147483647 then (decToM 2147483647 l 0, true) else (0, false)

set_option maxHeartbeats 1000000 in
theorem numParse_calls (s : ByteArray) (w : World) (hs : s.size ≤ 1099511627776) :
    Calls Tryd.prog 44 #[.string s] w fun e w' => e = .returned (.tuple #[.int .i64 (numL s.data.toList).1, .bool (numL s.data.toList).2]) ∧ w' = w := by
  obtain ⟨p, hp⟩ : ∃ p, numL s.data.toList = p := ⟨_, rfl⟩
  rw [hp]
  unfold numL at hp
  have hd := decimalM_calls 2147483647 s w (by omega) (by omega) hs
  generalize decToM 2147483647 s.data.toList 0 = n at hp hd
  cases hk : decOk s.data.toList with
  | false =>
    rw [hk] at hp hd
    rw [if_neg (by simp)] at hp
    rw [if_neg (by simp)] at hd
    subst hp
    have Hd := hide hd
    clear hd hk
    go_enter Tryd.func44, Tryd.ntmps44
    go_wp2_with (go_at_call 53; refine Hd.out.mono ?_; rintro e w' ⟨rfl, rfl⟩)
    go_ret2
    exact ⟨rfl, rfl⟩
  | true =>
    rw [hk] at hp hd
    rw [if_pos rfl] at hd
    have Hd := hide hd
    clear hd hk
    by_cases hn : n ≤ 2147483647
    · rw [if_pos ⟨rfl, hn⟩] at hp
      subst hp
      have hn' : ¬ 2147483647 < n := by omega
      clear hn
      go_enter Tryd.func44, Tryd.ntmps44
      go_wp2_with (go_at_call 53; refine Hd.out.mono ?_; rintro e w' ⟨rfl, rfl⟩)
      go_ret2
      exact ⟨rfl, rfl⟩
    · rw [if_neg (by omega)] at hp
      subst hp
      have hn' : 2147483647 < n := by omega
      clear hn
      go_enter Tryd.func44, Tryd.ntmps44
      go_wp2_with (go_at_call 53; refine Hd.out.mono ?_; rintro e w' ⟨rfl, rfl⟩)
      go_ret2
      exact ⟨rfl, rfl⟩

end Go.Proofs.YtndhkbmgpjjepaaDoor

/- vec's parseNumbers and Parse: a text as a vector. Own work; no statement. -/
set_option linter.unusedSimpArgs false
set_option linter.unusedVariables false
namespace Go.Proofs.YtndhkbmgpjjepaaDoor
open Go.RowKit Go.Shelf

attribute [local go_sem] Oper.semAt_some

/-- 'x = append(x, ..)' by way of x's box B, the rows all beyond the boxes: every other block below them is as it was. -/
theorem app_low {W w1 : World} {N n₁ B : Nat} {t e : TypeId} {v v' : Value} {k m : Nat} {xs ys : List Value} {tmp : Obj} (hv : Boxed W B t v) (hrow : W.ownsRow n₁ e 1 v k xs) (hn : n₁ ≤ W.heap.size) (hB : B < n₁) (hN : N ≤ B)
    (hown : w1.ownsRow n₁ e 1 v' m ys) (hgrow : (W.alloc tmp).grownBy w1 v.ownBlock) :
    Boxed w1 B t v ∧ Boxed (w1.setCell ⟨B, 0, none⟩ v') B t v' ∧ (w1.setCell ⟨B, 0, none⟩ v').ownsRow n₁ e 1 v' m ys ∧ KeepsOthers W (w1.setCell ⟨B, 0, none⟩ v') ∧ Below N W (w1.setCell ⟨B, 0, none⟩ v') ∧
      Hid (∀ b, b < n₁ → b ≠ B → (w1.setCell ⟨B, 0, none⟩ v').heap[b]? = W.heap[b]?) := by
  have hne : ∀ b, b < n₁ → some b ≠ v.ownBlock := fun b hb e' => by have := (hrow.lt b e'.symm).1; omega
  have hv1 : Boxed w1 B t v := (hv.alloc tmp).kept hgrow (hne B hB)
  have hoth : ∀ b, b < n₁ → b ≠ B → (w1.setCell ⟨B, 0, none⟩ v').heap[b]? = W.heap[b]? := fun b hb hbB => app_other hgrow b (by omega) (hne b hb) hbB
  refine ⟨hv1, hv1.set v', ownsRow_of_heap hown (fun k hk => Below.heap_setCell _ _ _ _ (fun e' => by have := (hown.lt k hk).1; have e2 : k = B := e'; omega)), ?_, ?_, hoth⟩
  · refine ((KeepsOthers.alloc W tmp).trans (KeepsOthers.of_grownBy hgrow fun j o ej hj => ?_)).trans (KeepsOthers.setCell _ _ _)
    rcases (hrow.alloc tmp).2 with ⟨rfl, _⟩ | ⟨g, cap, cur, rfl, _, hgb, _⟩
    · simp [Value.ownBlock] at ej
    · obtain rfl : g = j := by simpa [Value.ownBlock] using ej
      rw [hgb] at hj; cases hj; rfl
  · exact (((Below.refl N W).alloc (by omega) tmp).grown hgrow (by simp; omega) (fun j ej => by have := (hrow.lt j ej).1; omega)).setCell (p := ⟨B, 0, none⟩) hN v'

theorem boxed_new' {W : World} {b : Nat} {t : TypeId} {v : Value} (h : b = W.heap.size) : Boxed (W.alloc (.cells #[v] t)) b t v := h ▸ Boxed.new W t v

theorem one_set {W : World} {a : Nat} {u : Value} (k : Nat) (h : k ≠ a) : (W.setCell ⟨a, 0, none⟩ u).heap[k]? = W.heap[k]? := Below.heap_setCell _ _ _ _ h
theorem two_sets {W : World} {a b : Nat} {u v : Value} (k : Nat) (h1 : k ≠ a) (h2 : k ≠ b) : ((W.setCell ⟨a, 0, none⟩ u).setCell ⟨b, 0, none⟩ v).heap[k]? = W.heap[k]? := (one_set k h2).trans (one_set k h1)

/-- One word more: what is there, the last number, whether there was too much. -/
def stepW (st : List Int × Int × Bool) (x : List UInt8) : List Int × Int × Bool :=
  if 1048576 < decTo x 0 ∨ st.1.length = 8 then (st.1, decTo x 0, true) else (st.1 ++ [decTo x 0], decTo x 0, st.2.2)
def stOf (ws : List (List UInt8)) : List Int × Int × Bool := ws.foldl stepW ([], 0, false)
theorem stOf_snoc (ws : List (List UInt8)) (x : List UInt8) : stOf (ws ++ [x]) = stepW (stOf ws) x := by simp [stOf]
theorem stOf_len : ∀ (ws : List (List UInt8)), (stOf ws).1.length ≤ 8 := by
  have : ∀ (ws : List (List UInt8)) st, st.1.length ≤ 8 → (ws.foldl stepW st).1.length ≤ 8 := by
    intro ws
    induction ws with
    | nil => intro st h; exact h
    | cons x ws ih =>
      intro st h
      refine ih _ ?_
      unfold stepW
      split
      · exact h
      · simp; omega
  exact fun ws => this ws _ (by simp)
/-- Words as numbers, or why not: the vector and the error's number. -/
def parseN (ws : List (List UInt8)) : List Int × Int :=
  if ws.all decOk then (if (stOf ws).2.1 = 0 then ([], 2) else if (stOf ws).2.2 then ([], 4) else ((stOf ws).1, 0)) else ([], 2)

end Go.Proofs.YtndhkbmgpjjepaaDoor

/- vec's Parse: a text as a vector. Own work; no statement. -/
set_option linter.unusedSimpArgs false
set_option linter.unusedVariables false
namespace Go.Proofs.YtndhkbmgpjjepaaDoor
open Go.RowKit Go.Shelf

/-- What is between the brackets. -/
def innerL (s : List UInt8) : List UInt8 := Lib.trimSuffix (Lib.trimPrefix s [91]) [93]
def bracketB (s : List UInt8) : Bool := Lib.hasPrefix s [91] && Lib.hasSuffix (Lib.trimPrefix s [91]) [93]
/-- A text as a vector and the error's number. -/
def parseL (s : List UInt8) : List Int × Int := if bracketB s then (if innerL s = [] then ([], 0) else parseN (splitL (innerL s))) else ([], 2)

theorem trimPrefix_length (s p : List UInt8) : (Lib.trimPrefix s p).length ≤ s.length := by unfold Lib.trimPrefix; split <;> simp
theorem trimSuffix_length (s p : List UInt8) : (Lib.trimSuffix s p).length ≤ s.length := by unfold Lib.trimSuffix; split <;> simp

end Go.Proofs.YtndhkbmgpjjepaaDoor

/- rec's isKey, checkVal, Check: whether a record may be. Own work; no statement. -/
set_option linter.unusedSimpArgs false
set_option linter.unusedVariables false
namespace Go.Proofs.YtndhkbmgpjjepaaDoor
open Go.RowKit

/-- A record, as plain data. -/
structure RecD where
  site : Int
  seq : Int
  dep : List Int
  key : ByteArray
  val : ByteArray

/-- In the world w the value v reads as the record r. -/
def IsRec (w : World) (v : Value) (r : RecD) : Prop :=
  ∃ a cap, v = .agg #[.int .i64 r.site, .int .i64 r.seq, .slice a r.dep.length cap, .string r.key, .string r.val] ∧ IsNums .i64 w (.slice a r.dep.length cap) r.dep

theorem IsRec.below {w w' : World} {v : Value} {r : RecD} (h : IsRec w v r) (hb : Below w.heap.size w w') : IsRec w' v r := by
  obtain ⟨a, cap, rfl, hn⟩ := h
  exact ⟨a, cap, rfl, hn.below hb⟩

/-- A vector's slice, with its numbers' count. -/
theorem IsNums.form {k : IntKind} {w : World} {v : Value} {l : List Int} (h : IsNums k w v l) : ∃ a cap, v = .slice a l.length cap := by
  obtain ⟨a, cap, rfl, -, -⟩ := h
  exact ⟨a, cap, rfl⟩

def keyB (c : UInt8) : Bool := decide ((97 ≤ c.toNat ∧ c.toNat ≤ 122) ∨ (48 ≤ c.toNat ∧ c.toNat ≤ 57))
def isKeyL (l : List UInt8) : Bool := decide (1 ≤ l.length ∧ l.length ≤ 8) && l.all keyB
def valB (c : UInt8) : Bool := decide (33 ≤ c.toNat ∧ c.toNat ≤ 126)
def checkValL (l : List UInt8) : Int := if l.all valB then (if 16 < l.length then 4 else 0) else 2

theorem all_not {p : UInt8 → Bool} (s : ByteArray) (k : Nat) (h : k < s.size) (hd : p s[k] = false) : s.data.toList.all p = false := by
  have hm : s[k] ∈ s.data.toList := by
    have : s[k] = s.data.toList[k]'(by simpa using h) := rfl
    rw [this]
    exact List.getElem_mem _
  rw [List.all_eq_false]
  exact ⟨_, hm, by rw [hd]; simp⟩

theorem all_snoc {p : UInt8 → Bool} (s : ByteArray) (k : Nat) (h : k < s.size) (hall : ∀ c ∈ s.data.toList.take k, p c = true) (hd : p s[k] = true) : ∀ c ∈ s.data.toList.take (k + 1), p c = true := by
  intro c hc
  rw [take_snoc_byte s k h] at hc
  rcases List.mem_append.1 hc with hc | hc
  · exact hall c hc
  · rw [List.mem_singleton.1 hc]; exact hd

theorem all_end {p : UInt8 → Bool} (s : ByteArray) (k : Nat) (h : ¬ k < s.size) (hall : ∀ c ∈ s.data.toList.take k, p c = true) : s.data.toList.all p = true := by
  have e : s.data.toList.take k = s.data.toList := List.take_of_length_le (by rw [← Lib.size_eq]; omega)
  rw [e] at hall
  exact List.all_eq_true.2 hall

/-- As what Check tells of r: the number of the error. -/
def checkR (r : RecD) (s : Int) : Int :=
  if s < 1 ∨ 8 < s ∨ r.site < 0 ∨ s ≤ r.site ∨ r.seq < 1 ∨ 1048576 < r.seq then 1 else if checkL r.dep s = 0 then
    (if r.seq ≤ geti r.dep r.site then 13 else if isKeyL r.key.data.toList then checkValL r.val.data.toList else 3) else checkL r.dep s

theorem box_below (w : World) (o : Obj) : Below w.heap.size w (w.alloc o) := (Below.refl _ w).alloc (Nat.le_refl _) o

end Go.Proofs.YtndhkbmgpjjepaaDoor

/- rec's Check, Before, Same; the laws' Of and Few. Own work; no statement. -/
set_option linter.unusedSimpArgs false
set_option linter.unusedVariables false
namespace Go.Proofs.YtndhkbmgpjjepaaDoor
open Go.RowKit
end Go.Proofs.YtndhkbmgpjjepaaDoor

/- rec's Before and Same. Own work; no statement. -/
set_option linter.unusedSimpArgs false
set_option linter.unusedVariables false
namespace Go.Proofs.YtndhkbmgpjjepaaDoor
open Go.RowKit

/-- A region whose head only reads, and whose tail comes in one order. -/
theorem region_tail {P : Program} {id : Nat} {Q : Exit → Act → World → Prop} {a : Act} {w : World} {l : List Oper} (n : Nat) (hm : P.follows .mixedOrders = true) (hB : Region.lexTailB .any l.toArray n = true)
    (h : wpStill P l.toArray w.drew (fun a' => wpList P l.toArray Q (l.drop n) a' w.drew) (l.take n) a) : (Code.region id l.toArray true).wp P Q a w := wp_region_still_tail n hm hB h

theorem str_ne {a b : ByteArray} (h : ¬ a = b) : (a.toList == b.toList) = false := by
  rw [beq_eq_false_iff_ne, Lib.toList_data, Lib.toList_data]
  intro e
  exact h (ByteArray.ext (Array.toList_inj.1 e))

def sameR (a b : RecD) : Bool := decide (a.site = b.site) && (decide (a.seq = b.seq) && (decide (a.key = b.key) && (decide (a.val = b.val) && everyB eqB a.dep b.dep)))

def beforeR (a b : RecD) : Bool := decide (a.site < b.site ∨ a.site = b.site ∧ a.seq < b.seq)

theorem before_num (x y x' y' : Int) : decide ((if Lib.compareInt x y = 0 then Lib.compareInt x' y' else Lib.compareInt x y) < 0) = decide (x < y ∨ x = y ∧ x' < y') := by
  unfold Lib.compareInt
  by_cases h : x < y
  · simp [h]
  · by_cases h2 : y < x
    · have : ¬ x = y := by omega
      simp [h, h2, this]
    · have e : x = y := by omega
      subst e
      by_cases h3 : x' < y'
      · simp [h3]
      · by_cases h4 : y' < x' <;> simp [h3, h4]

end Go.Proofs.YtndhkbmgpjjepaaDoor

/- A region whose operations read, and whose callees make memory of their own: one walk of the text's order serves every order. rec's Text. Own work; no statement. -/
set_option linter.unusedSimpArgs false
set_option linter.unusedVariables false
namespace Go.Proofs.YtndhkbmgpjjepaaDoor
open Go.RowKit Go.Sort

theorem app_bytes (a b : List UInt8) : (⟨a.toArray⟩ : ByteArray) ++ ⟨b.toArray⟩ = ⟨(a ++ b).toArray⟩ := by
  apply ByteArray.ext
  simp [ByteArray.data_append]

theorem textL_length {l : List Int} (h : InR l) : (textL l).length ≤ 22 * l.length + 2 := by
  have h1 := numsTo_length h (writtenL l)
  have h2 := writtenL_le l
  unfold textL
  simp
  omega

/-- A record in words. -/
def textR (r : RecD) : ByteArray := (⟨(Lib.itoa r.site).toArray⟩ : ByteArray) ++ ⟨#[58]⟩ ++ ⟨(Lib.itoa r.seq).toArray⟩ ++ ⟨#[32]⟩ ++ ⟨(textL r.dep).toArray⟩ ++ ⟨#[32]⟩ ++ r.key ++ ⟨#[61]⟩ ++ r.val

end Go.Proofs.YtndhkbmgpjjepaaDoor

/- strings.Cut at one byte, strings.Clone; rec's split. Own work; no statement. -/
set_option linter.unusedSimpArgs false
set_option linter.unusedVariables false
namespace Go.Proofs.YtndhkbmgpjjepaaDoor
open Go.RowKit Go.Sort

theorem set1 {W : World} {b j : Nat} {c : Array Value} {t : TypeId} {f : Nat × Nat} (h : W.heap[b]? = some (.cells c t f)) (v : Value) : (W.setCell ⟨b, j, none⟩ v).heap[b]? = some (.cells (c.setIfInBounds j v) t f) := by
  simp [World.setCell, Array.getElem?_modify, h]
theorem cell_at {W : World} {b : Nat} {c : Array Value} {t : TypeId} {f : Nat × Nat} (h : W.heap[b]? = some (.cells c t f)) (j : Nat) : W.cell? ⟨b, j, none⟩ = c[j]? := by
  simp [World.cell?, h]
/-- A struct of five cells, stored whole. -/
def put5 (W : World) (b : Nat) (v0 v1 v2 v3 v4 : Value) : World := ((((W.setCell ⟨b, 0, none⟩ v0).setCell ⟨b, 1, none⟩ v1).setCell ⟨b, 2, none⟩ v2).setCell ⟨b, 3, none⟩ v3).setCell ⟨b, 4, none⟩ v4
theorem put5_heap {W : World} {b : Nat} {x0 x1 x2 x3 x4 : Value} {t : TypeId} {f : Nat × Nat} (h : W.heap[b]? = some (.cells #[x0, x1, x2, x3, x4] t f)) (v0 v1 v2 v3 v4 : Value) :
    (put5 W b v0 v1 v2 v3 v4).heap[b]? = some (.cells #[v0, v1, v2, v3, v4] t f) := by
  have := set1 (j := 4) (set1 (j := 3) (set1 (j := 2) (set1 (j := 1) (set1 (j := 0) h v0) v1) v2) v3) v4
  simpa [put5] using this
theorem put5_below {B b : Nat} {w W : World} (h : Below B w W) (hb : B ≤ b) (v0 v1 v2 v3 v4 : Value) : Below B w (put5 W b v0 v1 v2 v3 v4) :=
  ((((h.setCell (p := ⟨b, 0, none⟩) hb v0).setCell (p := ⟨b, 1, none⟩) hb v1).setCell (p := ⟨b, 2, none⟩) hb v2).setCell (p := ⟨b, 3, none⟩) hb v3).setCell (p := ⟨b, 4, none⟩) hb v4
theorem put5_other {b : Nat} {W : World} (k : Nat) (h : k ≠ b) (v0 v1 v2 v3 v4 : Value) : (put5 W b v0 v1 v2 v3 v4).heap[k]? = W.heap[k]? := by
  unfold put5
  rw [Below.heap_setCell _ ⟨b, 4, none⟩ _ k h, Below.heap_setCell _ ⟨b, 3, none⟩ _ k h, Below.heap_setCell _ ⟨b, 2, none⟩ _ k h, Below.heap_setCell _ ⟨b, 1, none⟩ _ k h, Below.heap_setCell _ ⟨b, 0, none⟩ _ k h]

/-- A text before and behind a byte's first place. -/
def cutL (l : List UInt8) (c : UInt8) : List UInt8 × List UInt8 × Bool :=
  if Lib.indexByte l c = -1 then (l, [], false) else (l.take (Lib.indexByte l c).toNat, l.drop ((Lib.indexByte l c).toNat + 1), true)

theorem indexByte_lt : ∀ (l : List UInt8) (c : UInt8), Lib.indexByte l c < l.length
  | [], _ => by simp [Lib.indexByte]
  | x :: r, c => by
    have := indexByte_lt r c
    simp only [Lib.indexByte, List.length_cons]
    split
    · omega
    · split <;> omega

theorem cutL_length (l : List UInt8) (c : UInt8) : (cutL l c).1.length ≤ l.length ∧ (cutL l c).2.1.length ≤ l.length := by
  unfold cutL
  split <;> simp <;> omega

set_option maxHeartbeats 1000000 in
theorem litCut_calls (l : List UInt8) (c : UInt8) (w : World) (hs : l.length ≤ 1099511627776) :
    Calls Tryd.prog 52 #[.string ⟨l.toArray⟩, .string ⟨#[c]⟩] w fun e w' => e = .returned (.tuple #[.string ⟨(cutL l c).1.toArray⟩, .string ⟨(cutL l c).2.1.toArray⟩, .bool (cutL l c).2.2]) ∧ ∃ n, w' = w.drewN n := by
  obtain ⟨p, hp⟩ : ∃ p, cutL l c = p := ⟨_, rfl⟩
  rw [hp]
  unfold cutL at hp
  have ci := Tryd.stringslite_Index_one ⟨l.toArray⟩ c w
  rw [show (⟨l.toArray⟩ : ByteArray).data.toList = l from rfl] at ci
  have hge := Lib.indexByte_ge l c
  have hlt := indexByte_lt l c
  generalize Lib.indexByte l c = i at *
  have Ci := hide ci
  clear ci
  by_cases hi : i = -1
  · rw [if_pos hi] at hp
    subst hi
    subst hp
    clear hge hlt
    go_enter Tryd.func52, Tryd.ntmps52
    go_wp2_with (go_at_call 60; refine Ci.out.mono ?_; rintro e w' ⟨rfl, rfl⟩)
    go_ret3
    exact ⟨rfl, 0, rfl⟩
  · rw [if_neg hi] at hp
    subst hp
    obtain ⟨k, rfl⟩ := Int.eq_ofNat_of_zero_le (show 0 ≤ i by omega)
    have hk : k < l.length := by omega
    clear hge hi
    have hx1 := extract_head l k
    have hx2 := extract_tail l (k + 1) l.length rfl
    rw [Int.toNat_natCast]
    go_enter Tryd.func52, Tryd.ntmps52
    go_wp2_with (go_at_call 60; refine Ci.out.mono ?_; rintro e w' ⟨rfl, rfl⟩)
    go_quiet (fail)
    go_wp2
    go_ret3
    exact ⟨rfl, _, rfl⟩

set_option maxHeartbeats 1000000 in
theorem cut_calls (l : List UInt8) (c : UInt8) (w : World) (hs : l.length ≤ 1099511627776) :
    Calls Tryd.prog 43 #[.string ⟨l.toArray⟩, .string ⟨#[c]⟩] w fun e w' => e = .returned (.tuple #[.string ⟨(cutL l c).1.toArray⟩, .string ⟨(cutL l c).2.1.toArray⟩, .bool (cutL l c).2.2]) ∧ ∃ n, w' = w.drewN n := by
  have Ci := hide (litCut_calls l c w hs)
  generalize cutL l c = p at *
  obtain ⟨p1, p2, p3⟩ := p
  dsimp only at *
  go_enter Tryd.func43, Tryd.ntmps43
  go_wp2_with (go_at_call 52; refine Ci.out.mono ?_; rintro e w' ⟨rfl, n, rfl⟩)
  go_ret3
  exact ⟨rfl, _, rfl⟩

/-- The parts of a record's text, at the signs that end them. -/
structure Parts where
  site : List UInt8
  seq : List UInt8
  dep : List UInt8
  key : List UInt8
  val : List UInt8

def splitR (s : List UInt8) : Option Parts :=
  let c1 := cutL s 58
  let c2 := cutL c1.2.1 32
  let e := (Lib.indexByte c2.2.1 93 + 1).toNat
  let r := c2.2.1.drop e
  let c3 := cutL (Lib.trimPrefix r [32]) 61
  if c1.2.2 = true ∧ c2.2.2 = true ∧ e ≠ 0 ∧ Lib.hasPrefix r [32] = true ∧ c3.2.2 = true then some ⟨c1.1, c2.1, c2.2.1.take e, c3.1, c3.2.1⟩ else none

/-- What split hands back: the parts, or nothing at all. -/
def partsV : Option Parts → Value
  | some p => .agg #[.string ⟨p.site.toArray⟩, .string ⟨p.seq.toArray⟩, .string ⟨p.dep.toArray⟩, .string ⟨p.key.toArray⟩, .string ⟨p.val.toArray⟩]
  | none => .agg #[.string ⟨#[]⟩, .string ⟨#[]⟩, .string ⟨#[]⟩, .string ⟨#[]⟩, .string ⟨#[]⟩]

theorem below_drewN (w : World) (n : Nat) : Below w.heap.size w (w.drewN n) := below_draws n

end Go.Proofs.YtndhkbmgpjjepaaDoor

/- slices.Clone at vec.Vec; rec's copied. Own work; no statement. -/
set_option linter.unusedSimpArgs false
set_option linter.unusedVariables false
namespace Go.Proofs.YtndhkbmgpjjepaaDoor
open Go.RowKit Go.Sort

theorem row_of_nil (w : World) (B : Nat) (e : TypeId) : w.ownsRow B e 1 (.slice none 0 0) 0 [] := World.ownsRow_nil w B e 1

theorem frozen_at {W : World} {b : Nat} {c : Array Value} {t : TypeId} (h : W.heap[b]? = some (.cells c t (0, 0))) (j : Nat) : W.frozen? ⟨b, j, none⟩ = false := by
  simp [World.frozen?, h]

/-- A record by value, with its numbers in memory of its own from block B on. -/
def OwnRec (B : Nat) (w : World) (v : Value) (r : RecD) : Prop :=
  ∃ vd, v = .agg #[.int .i64 r.site, .int .i64 r.seq, vd, .string r.key, .string r.val] ∧ w.ownsRow B 3 1 vd r.dep.length (r.dep.map (Value.int .i64))

theorem OwnRec.isRec {B : Nat} {w : World} {v : Value} {r : RecD} (h : OwnRec B w v r) : IsRec w v r := by
  obtain ⟨vd, rfl, ho⟩ := h
  obtain ⟨a, cap, rfl⟩ := ownsRow_slice ho
  exact ⟨a, cap, rfl, IsNums.of_row ho⟩

end Go.Proofs.YtndhkbmgpjjepaaDoor

/- rec's Parse: a text as a record. Own work; no statement. -/
set_option linter.unusedSimpArgs false
set_option linter.unusedVariables false
namespace Go.Proofs.YtndhkbmgpjjepaaDoor
open Go.RowKit Go.Sort

def zeroR : RecD := ⟨0, 0, [], ⟨#[]⟩, ⟨#[]⟩⟩
/-- A record's parts as the record, and the error's number. -/
def parseP (ok : Bool) (p1 p2 p3 p4 p5 : List UInt8) : RecD × Int :=
  if ok = true ∧ (numL p1).2 = true ∧ (numL p2).2 = true then
    (if (parseL p3).2 = 0 then
      (if checkR ⟨(numL p1).1, (numL p2).1, (parseL p3).1, ⟨p4.toArray⟩, ⟨p5.toArray⟩⟩ 8 = 0 then (⟨(numL p1).1, (numL p2).1, (parseL p3).1, ⟨p4.toArray⟩, ⟨p5.toArray⟩⟩, 0)
        else (zeroR, checkR ⟨(numL p1).1, (numL p2).1, (parseL p3).1, ⟨p4.toArray⟩, ⟨p5.toArray⟩⟩ 8))
      else (zeroR, (parseL p3).2))
    else (zeroR, 2)
/-- A text as a record, and the error's number. -/
def parseR (s : List UInt8) : RecD × Int :=
  match splitR s with
  | some p => parseP true p.site p.seq p.dep p.key p.val
  | none => parseP false [] [] [] [] []

theorem splitR_length {s : List UInt8} {p : Parts} (h : splitR s = some p) : p.site.length ≤ s.length ∧ p.seq.length ≤ s.length ∧ p.dep.length ≤ s.length ∧ p.key.length ≤ s.length ∧ p.val.length ≤ s.length := by
  unfold splitR at h
  dsimp only at h
  have h1 := cutL_length s 58
  generalize cutL s 58 = c1 at *
  have h2 := cutL_length c1.2.1 32
  generalize cutL c1.2.1 32 = c2 at *
  generalize (Lib.indexByte c2.2.1 93 + 1).toNat = e at *
  have h3 := trimPrefix_length (c2.2.1.drop e) [32]
  have h4 := cutL_length (Lib.trimPrefix (c2.2.1.drop e) [32]) 61
  generalize cutL (Lib.trimPrefix (c2.2.1.drop e) [32]) 61 = c3 at *
  split at h
  · have e1 := Option.some.inj h
    subst e1
    simp only [List.length_drop] at h3
    refine ⟨by dsimp only; omega, by dsimp only; omega, by dsimp only; simp; omega, by dsimp only; omega, by dsimp only; omega⟩
  · cases h

theorem parseL_len (s : List UInt8) : (parseL s).1.length ≤ 8 := by
  unfold parseL parseN
  have := stOf_len (splitL (innerL s))
  split
  · split
    · simp
    · split
      · split
        · simp
        · split
          · simp
          · simpa using this
      · simp
  · simp
theorem own_below {W W' : World} {B : Nat} {e : TypeId} {size : Nat} {v : Value} {n : Nat} {xs : List Value} (h : W.ownsRow B e size v n xs) (hB : Below W.heap.size W W') : W'.ownsRow B e size v n xs :=
  ownsRow_of_heap h fun k hk => hB.block k (h.lt k hk).2
theorem keepB {b : Nat} {o : Obj} {W W' : World} (h : W.heap[b]? = some o) (hB : Below W.heap.size W W') : W'.heap[b]? = some o := (hB.block b (Array.getElem?_eq_some_iff.1 h).1).trans h
theorem ltB {b : Nat} {o : Obj} {W : World} (h : W.heap[b]? = some o) : b < W.heap.size := (Array.getElem?_eq_some_iff.1 h).1

/-- What Parse hands back is in its own block: the end of each way that tells an error. -/
theorem parse_zero {W w : World} {b : Nat} {x0 x1 x2 x3 x4 : Value} {t : TypeId} (h : W.heap[b]? = some (.cells #[x0, x1, x2, x3, x4] t (0, 0))) (hB : Below w.heap.size w W) (hb : w.heap.size ≤ b) :
    ∃ W', put5 W b (.int .i64 0) (.int .i64 0) (.slice none 0 0) (.string ⟨#[]⟩) (.string ⟨#[]⟩) = W' ∧ W'.cell? ⟨b, 0, none⟩ = some (.int .i64 0) ∧ W'.cell? ⟨b, 1, none⟩ = some (.int .i64 0) ∧ W'.cell? ⟨b, 2, none⟩ = some (.slice none 0 0) ∧ W'.cell? ⟨b, 3, none⟩ = some (.string ⟨#[]⟩) ∧ W'.cell? ⟨b, 4, none⟩ = some (.string ⟨#[]⟩) ∧ Below w.heap.size w W' := by
  have e := put5_heap h (.int .i64 0) (.int .i64 0) (.slice none 0 0) (.string ⟨#[]⟩) (.string ⟨#[]⟩)
  exact ⟨_, rfl, cell_at e 0, cell_at e 1, cell_at e 2, cell_at e 3, cell_at e 4, put5_below hB hb _ _ _ _ _⟩
theorem zero_own (B : Nat) (w : World) : OwnRec B w (.agg #[.int .i64 0, .int .i64 0, .slice none 0 0, .string ⟨#[]⟩, .string ⟨#[]⟩]) zeroR := ⟨_, rfl, World.ownsRow_nil _ _ _ _⟩

end Go.Proofs.YtndhkbmgpjjepaaDoor
