/- Own work: the parts R5, R6, R7, R8, RangeL, D1, TK1, TK2, TK0 of the proof, laid together. -/
import Derived.Test.YtdkpbfigjdmfpaaPartTokenChain2
import Derived.Laws.AppendOwn
import Derived.Outline
import Derived.Deep.RegionLaw
import Derived.StillTailTactics
import Derived.Test.YtdkpbfigjdmfpaaPartTokenChain1
/- strings.Cut at one byte, strings.Clone; rec's split. Own work; no statement. -/
set_option linter.unusedSimpArgs false
set_option linter.unusedVariables false
namespace Go.Proofs.Ytdkpbfigjdmfpaa
open Go.RowKit Go.Sort

theorem set1 {W : World} {b j : Nat} {c : Array Value} {t : TypeId} {f : Nat × Nat} (h : W.heap[b]? = some (.cells c t f)) (v : Value) : (W.setCell ⟨b, j, none⟩ v).heap[b]? = some (.cells (c.setIfInBounds j v) t f) := by
  simp [World.setCell, Array.getElem?_modify, h]
theorem cell_at {W : World} {b : Nat} {c : Array Value} {t : TypeId} {f : Nat × Nat} (h : W.heap[b]? = some (.cells c t f)) (j : Nat) : W.cell? ⟨b, j, none⟩ = c[j]? := by
  simp [World.cell?, h]
/-- A struct of five cells, stored whole. -/
def put5 (W : World) (b : Nat) (v0 v1 v2 v3 v4 : Value) : World := ((((W.setCell ⟨b, 0, none⟩ v0).setCell ⟨b, 1, none⟩ v1).setCell ⟨b, 2, none⟩ v2).setCell ⟨b, 3, none⟩ v3).setCell ⟨b, 4, none⟩ v4
theorem put5_heap {W : World} {b : Nat} {x0 x1 x2 x3 x4 : Value} {t : TypeId} {f : Nat × Nat} (h : W.heap[b]? = some (.cells #[x0, x1, x2, x3, x4] t f)) (v0 v1 v2 v3 v4 : Value) :
    (put5 W b v0 v1 v2 v3 v4).heap[b]? = some (.cells #[v0, v1, v2, v3, v4] t f) := by
  have := set1 (j := 4) (set1 (j := 3) (set1 (j := 2) (set1 (j := 1) (set1 (j := 0) h v0) v1) v2) v3) v4
  simpa [put5] using this
theorem put5_below {B b : Nat} {w W : World} (h : Below B w W) (hb : B ≤ b) (v0 v1 v2 v3 v4 : Value) : Below B w (put5 W b v0 v1 v2 v3 v4) :=
  ((((h.setCell (p := ⟨b, 0, none⟩) hb v0).setCell (p := ⟨b, 1, none⟩) hb v1).setCell (p := ⟨b, 2, none⟩) hb v2).setCell (p := ⟨b, 3, none⟩) hb v3).setCell (p := ⟨b, 4, none⟩) hb v4
theorem put5_other {b : Nat} {W : World} (k : Nat) (h : k ≠ b) (v0 v1 v2 v3 v4 : Value) : (put5 W b v0 v1 v2 v3 v4).heap[k]? = W.heap[k]? := by
  unfold put5
  rw [Below.heap_setCell _ ⟨b, 4, none⟩ _ k h, Below.heap_setCell _ ⟨b, 3, none⟩ _ k h, Below.heap_setCell _ ⟨b, 2, none⟩ _ k h, Below.heap_setCell _ ⟨b, 1, none⟩ _ k h, Below.heap_setCell _ ⟨b, 0, none⟩ _ k h]

/-- A text before and behind a byte's first place. -/
def cutL (l : List UInt8) (c : UInt8) : List UInt8 × List UInt8 × Bool :=
  if Lib.indexByte l c = -1 then (l, [], false) else (l.take (Lib.indexByte l c).toNat, l.drop ((Lib.indexByte l c).toNat + 1), true)

theorem indexByte_lt : ∀ (l : List UInt8) (c : UInt8), Lib.indexByte l c < l.length
  | [], _ => by simp [Lib.indexByte]
  | x :: r, c => by
    have := indexByte_lt r c
    simp only [Lib.indexByte, List.length_cons]
    split
    · omega
    · split <;> omega

theorem cutL_length (l : List UInt8) (c : UInt8) : (cutL l c).1.length ≤ l.length ∧ (cutL l c).2.1.length ≤ l.length := by
  unfold cutL
  split <;> simp <;> omega

/-- The parts of a record's text, at the signs that end them. -/
structure Parts where
  site : List UInt8
  seq : List UInt8
  dep : List UInt8
  key : List UInt8
  val : List UInt8

def splitR (s : List UInt8) : Option Parts :=
  let c1 := cutL s 58
  let c2 := cutL c1.2.1 32
  let e := (Lib.indexByte c2.2.1 93 + 1).toNat
  let r := c2.2.1.drop e
  let c3 := cutL (Lib.trimPrefix r [32]) 61
  if c1.2.2 = true ∧ c2.2.2 = true ∧ e ≠ 0 ∧ Lib.hasPrefix r [32] = true ∧ c3.2.2 = true then some ⟨c1.1, c2.1, c2.2.1.take e, c3.1, c3.2.1⟩ else none

/-- What split hands back: the parts, or nothing at all. -/
def partsV : Option Parts → Value
  | some p => .agg #[.string ⟨p.site.toArray⟩, .string ⟨p.seq.toArray⟩, .string ⟨p.dep.toArray⟩, .string ⟨p.key.toArray⟩, .string ⟨p.val.toArray⟩]
  | none => .agg #[.string ⟨#[]⟩, .string ⟨#[]⟩, .string ⟨#[]⟩, .string ⟨#[]⟩, .string ⟨#[]⟩]

theorem below_drewN (w : World) (n : Nat) : Below w.heap.size w (w.drewN n) := below_draws n

end Go.Proofs.Ytdkpbfigjdmfpaa

/- slices.Clone at vec.Vec; rec's copied. Own work; no statement. -/
set_option linter.unusedSimpArgs false
set_option linter.unusedVariables false
namespace Go.Proofs.Ytdkpbfigjdmfpaa
open Go.RowKit Go.Sort

theorem row_of_nil (w : World) (B : Nat) (e : TypeId) : w.ownsRow B e 1 (.slice none 0 0) 0 [] := World.ownsRow_nil w B e 1

set_option maxHeartbeats 2000000 in
set_option maxRecDepth 100000 in
theorem cloneVec_calls (v : Value) (l : List Int) (w : World) (hv : IsNums .i64 w v l) (hl : l.length ≤ 17592186044416) :
    Calls Try.prog 35 #[v] w fun e w' => ∃ v', e = .returned v' ∧ w'.ownsRow w.heap.size 3 1 v' l.length (l.map (Value.int .i64)) ∧ Below w.heap.size w w' := by
  obtain ⟨i0, hi, hz0, hz1, hz2⟩ := info_parts Try.info3
  have q22 : ∀ (w : World) (a : Option Addr) (n c n' c' : Nat), (binOp .eql 23 (.slice a n c) (.slice none n' c')).run Try.prog w = .ok (.bool a.isNone) w := fun w a n c n' c' => Lib.run_eql_slice_nil w _ _ a n c n' c' Try.underlying23
  obtain ⟨a, cap, rfl, hcap, hcell⟩ := hv
  cases a with
  | none =>
    have hl0 : l = [] := by
      cases l with
      | nil => rfl
      | cons x xs => obtain ⟨b, o, e, -⟩ := hcell 0 (by simp); cases e
    subst hl0
    clear hcell hcap
    go_enter Try.func35, Try.ntmps35
    go_wp2
    go_ret
    exact ⟨_, rfl, World.ownsRow_nil _ _ _ _, Below.refl _ _⟩
  | some ad =>
    have hnews : ∀ j u, (l.map (Value.int .i64))[j]? = some u → (w.alloc (.cells #[] 3)).cell? (ad.add j) = some u := by
      intro j u hj
      have hjl : j < l.length := by have := (List.getElem?_eq_some_iff.1 hj).1; simpa using this
      obtain ⟨b, o, e, hc⟩ := hcell j hjl
      cases e
      rw [Addr.add_lit]
      refine Lib.cell?_alloc_some _ ?_
      rw [hc, ← hj]
      simp [hjl]
    have A := hide hnews
    clear hnews hcell
    go_enter Try.func35, Try.ntmps35
    go_wp2_with (at_builtin; refine wpList_append_own _ rfl _ _ 23 rfl w.heap.size 3 i0 (.int .i64 0) 1 8 Try.underlying23 hi hz0 hz1 hz2 rfl (by decide) _ _ _ rfl (World.ownsRow_made w #[] 0 (Nat.le_refl _) (Nat.zero_le _) rfl) ad l.length cap (l.map (Value.int .i64)) rfl ?qc1 A.out ?qc3 ?qc4 ?qc5 ?qc6 ?_)
    case qc1 => simp
    case qc3 => intro u hu; obtain ⟨x, _, rfl⟩ := List.mem_map.1 hu; rfl
    case qc4 => unfold maxLen; omega
    case qc5 => omega
    case qc6 => simp
    intro v' w1 hown hgrow hnil
    go_wp2
    go_ret
    refine ⟨v', rfl, by simpa using hown, ?_⟩
    exact ((Below.refl _ w).alloc (Nat.le_refl _) _).grown hgrow (by simp) (by intro k hk; simp [Value.ownBlock] at hk; omega)

theorem frozen_at {W : World} {b : Nat} {c : Array Value} {t : TypeId} (h : W.heap[b]? = some (.cells c t (0, 0))) (j : Nat) : W.frozen? ⟨b, j, none⟩ = false := by
  simp [World.frozen?, h]

theorem own_below {W W' : World} {B : Nat} {e : TypeId} {size : Nat} {v : Value} {n : Nat} {xs : List Value} (h : W.ownsRow B e size v n xs) (hB : Below W.heap.size W W') : W'.ownsRow B e size v n xs :=
  ownsRow_of_heap h fun k hk => hB.block k (h.lt k hk).2
theorem keepB {b : Nat} {o : Obj} {W W' : World} (h : W.heap[b]? = some o) (hB : Below W.heap.size W W') : W'.heap[b]? = some o := (hB.block b (Array.getElem?_eq_some_iff.1 h).1).trans h
theorem ltB {b : Nat} {o : Obj} {W : World} (h : W.heap[b]? = some o) : b < W.heap.size := (Array.getElem?_eq_some_iff.1 h).1

def zeroR : RecD := ⟨0, 0, [], ⟨#[]⟩, ⟨#[]⟩⟩

/-- A record by value, with its numbers in memory of its own from block B on. -/
def OwnRec (B : Nat) (w : World) (v : Value) (r : RecD) : Prop :=
  ∃ vd, v = .agg #[.int .i64 r.site, .int .i64 r.seq, vd, .string r.key, .string r.val] ∧ w.ownsRow B 3 1 vd r.dep.length (r.dep.map (Value.int .i64))

theorem OwnRec.isRec {B : Nat} {w : World} {v : Value} {r : RecD} (h : OwnRec B w v r) : IsRec w v r := by
  obtain ⟨vd, rfl, ho⟩ := h
  obtain ⟨a, cap, rfl⟩ := ownsRow_slice ho
  exact ⟨a, cap, rfl, IsNums.of_row ho⟩

end Go.Proofs.Ytdkpbfigjdmfpaa

/- rec's Parse: a text as a record. Own work; no statement. -/
set_option linter.unusedSimpArgs false
set_option linter.unusedVariables false
namespace Go.Proofs.Ytdkpbfigjdmfpaa
open Go.RowKit Go.Sort


end Go.Proofs.Ytdkpbfigjdmfpaa

/- Steps of a region that draws; rows of structs; rec's Of. Own work; no statement. -/
set_option linter.unusedSimpArgs false
set_option linter.unusedVariables false
namespace Go.Proofs.Ytdkpbfigjdmfpaa
open Go.RowKit Go.Sort

section
variable {P : Program} {ops : Array Oper} {o : Oper} {a : Act} {w : World} {K : Act → World → Prop} {Q : Exit → Act → World → Prop} {E : Prop}

/-- A call of a Go function by its contract, as a step of a region that draws. -/
theorem step_call (hg : o.guard = none) (f : FuncId) (args : Array Value) {R : Ending → World → Prop} (hrun : (execOp a.eval o).run P w = .ok (.enter f args) w) (hc : Calls P f args w R)
    (hR : ∀ e w', R e w' → ∃ v, e = .returned v ∧ K (a.put o.dst v) w') : if Region.wanted o (yielded ops a.tmps) = true then Oper.wp P o a w K Q else E := by
  rw [if_pos (by simp [Region.wanted, hg])]
  unfold Oper.wp
  rw [hrun]
  simp only [Oper.upon]
  refine hc.mono fun e w' h => ?_
  obtain ⟨v, rfl, hk⟩ := hR e w' h
  exact hk

/-- append to a row of one's own, as such a step. -/
theorem step_append (hg : o.guard = none) (s x : Operand) (t : TypeId) (hop : o.op = Op.call { callee := Callee.builtin Builtin.append, args := #[s, x], argTypes := #[t, t] })
    (base : Nat) (e : TypeId) (i : TypeInfo) (z : Value) (size bytes : Nat) (h1 : P.underlying t = some (.slice e)) (h2 : P.info? e = some i) (h3 : i.zero = some z) (h4 : i.size = size) (h5 : i.bytes = bytes) (h6 : z.cells.size = size) (h7 : 0 < size)
    (v : Value) (n : Nat) (xs : List Value) (hs : a.eval s = v) (hown : w.ownsRow base e size v n xs) (ad : Addr) (m c : Nat) (news : List Value) (hx : a.eval x = .slice (some ad) m c) (hn : news.length = m * size) (hc : ∀ j u, news[j]? = some u → w.cell? (ad.add j) = some u) (h1c : ∀ u ∈ news, u.oneCell' = true)
    (b1 : n + m ≤ maxLen) (b2 : (n + m) * bytes ≤ 140737488355328) (hb : base ≤ w.heap.size)
    (hK : ∀ v' w', w'.ownsRow base e size v' (n + m) (xs ++ news) → w.grownBy w' v.ownBlock → K (a.put o.dst v') w') : if Region.wanted o (yielded ops a.tmps) = true then Oper.wp P o a w K Q else E := by
  rw [if_pos (by simp [Region.wanted, hg])]
  obtain ⟨v', w', hrun, r1, r2, _⟩ := run_append_own (P := P) w base t o.type e i z size bytes h1 h2 h3 h4 h5 h6 h7 v n xs hown ad m c news hn hc h1c b1 b2 hb
  unfold Oper.wp
  simp [execOp, hop, resolve, invoke, builtin, hs, hx, hrun, Result.andThen]
  exact hK v' w' r1 r2
end

/-- At ⟨b, o⟩ there lies the record r. -/
def RecAt (w : World) (b o : Nat) (r : RecD) : Prop :=
  ∃ a cap, w.cell? ⟨b, o, none⟩ = some (.int .i64 r.site) ∧ w.cell? ⟨b, o + 1, none⟩ = some (.int .i64 r.seq) ∧ w.cell? ⟨b, o + 2, none⟩ = some (.slice a r.dep.length cap) ∧ w.cell? ⟨b, o + 3, none⟩ = some (.string r.key) ∧ w.cell? ⟨b, o + 4, none⟩ = some (.string r.val) ∧
    IsNums .i64 w (.slice a r.dep.length cap) r.dep
theorem RecAt.below {w w' : World} {b o : Nat} {r : RecD} (h : RecAt w b o r) (hb : Below w.heap.size w w') : RecAt w' b o r := by
  obtain ⟨a, cap, h0, h1, h2, h3, h4, hn⟩ := h
  have hlt : b < w.heap.size := World.block_lt_of_cell? w _ h0
  exact ⟨a, cap, (hb.cell (p := ⟨b, o, none⟩) hlt).trans h0, (hb.cell (p := ⟨b, o + 1, none⟩) hlt).trans h1, (hb.cell (p := ⟨b, o + 2, none⟩) hlt).trans h2, (hb.cell (p := ⟨b, o + 3, none⟩) hlt).trans h3, (hb.cell (p := ⟨b, o + 4, none⟩) hlt).trans h4, hn.below hb⟩

/-- In the world w the slice v reads as the records l. -/
def IsRecs (w : World) (v : Value) (l : List RecD) : Prop :=
  ∃ a cap, v = .slice a l.length cap ∧ ∀ t (h : t < l.length), ∃ b o, a = some ⟨b, o, none⟩ ∧ RecAt w b (o + t * 5) l[t]
theorem IsRecs.below {w w' : World} {v : Value} {l : List RecD} (h : IsRecs w v l) (hb : Below w.heap.size w w') : IsRecs w' v l := by
  obtain ⟨a, cap, rfl, h⟩ := h
  exact ⟨a, cap, rfl, fun t ht => let ⟨b, o, e, hr⟩ := h t ht; ⟨b, o, e, hr.below hb⟩⟩

/-- A record of a site, its place, and the slice of its numbers. -/
structure Pl where
  i : Int
  r : RecD
  vd : Value
def Pl.cells (p : Pl) : List Value := [.int .i64 p.i, .int .i64 p.r.site, .int .i64 p.r.seq, p.vd, .string p.r.key, .string p.r.val]

/-- The records of a site among the first k, with their places. -/
def placedTo (l : List RecD) (site : Int) : Nat → List (Int × RecD)
  | 0 => []
  | k + 1 => placedTo l site k ++ (match l[k]? with | some r => if r.site = site then [((k : Int), r)] else [] | none => [])

theorem rows_apart {W : World} {B B' : Nat} {e e' : TypeId} {s s' : Nat} {v v' : Value} {n n' : Nat} {xs ys : List Value} (he : e ≠ e') (h : W.ownsRow B e s v n xs) (h' : W.ownsRow B' e' s' v' n' ys) (k : Nat) (hk : v.ownBlock = some k) : v'.ownBlock ≠ some k := by
  intro hk'
  rcases h.2 with ⟨rfl, _⟩ | ⟨g, cap, cur, rfl, _, hg, _⟩
  · cases hk
  · rcases h'.2 with ⟨rfl, _⟩ | ⟨g', cap', cur', rfl, _, hg', _⟩
    · cases hk'
    · have e1 : g = k := by simpa [Value.ownBlock] using hk
      have e2 : g' = k := by simpa [Value.ownBlock] using hk'
      subst e1
      subst e2
      rw [hg] at hg'
      simp only [Option.some.injEq, Obj.cells.injEq] at hg'
      exact he hg'.2.1

end Go.Proofs.Ytdkpbfigjdmfpaa

/- A range over a function that goes over a list which is known: the body is walked at the k-th element of it. Own work; no statement. -/
set_option linter.unusedSimpArgs false
set_option linter.unusedVariables false
namespace Go.Proofs.Ytdkpbfigjdmfpaa
open Go.RowKit Go.Shelf

section
variable {α : Type} {P : Program} {n : Nat}

/-- The iterator's contract: it hands over xs, one by one, as long as it is asked. -/
def SeqL (n : Nat) (P : Program) (g : Nat) (lb : Array Value) (encs : α → Array Value) (Kp : World → World → Prop) (xs : List α) (w : World) : Prop :=
  ∀ (l : Nat) (J Jx : Nat → World → Prop) (W : World), Below w.heap.size w W →
    (∀ k (h : k < xs.length) A, J k A → YieldAt Fence.wide (n - 1) P l (encs xs[k]) A fun e C => (e = .returned (.bool true) ∧ J (k + 1) C ∧ Kp A C) ∨ (e = .returned (.bool false) ∧ Jx k C)) →
    J 0 W → CallsIn Fence.wide n P g (#[.func (.yield l) #[] #[]] ++ lb) W fun e B => (∃ v, e = .returned v) ∧ (J xs.length B ∨ ∃ k, k < xs.length ∧ Jx k B)

/-- How the body of a round may be left. -/
def postL (B : Nat) (Kp : World → World → Prop) (I : Nat → World → Prop) (Ix : Code → Nat → World → Prop) (k : Nat) (W : World) : Exit → Act → World → Prop
  | .normal, _, W' => KeepsFrom B W W' ∧ Kp W W' ∧ I (k + 1) W'
  | .ret, _, W' => KeepsFrom B W W' ∧ Ix .ret k W'
  | .exit id, _, W' => KeepsFrom B W W' ∧ Ix (.exit id) k W'
  | .goto t, _, W' => KeepsFrom B W W' ∧ Ix (.goto t) k W'
  | .panic _, _, _ => False
  | .outgrown, _, _ => False

theorem range_lawL {g : Operand} {ps : Array Tmp} {assign body : Code} {Q : Exit → Act → World → Prop} {a : Act} {w : World} (h1 : 1 ≤ n) {gf : Nat} {lb : Array Value} (hg : a.eval g = .func (.func gf) #[] lb)
    (eg : ∀ args w, (callFunc gf args).run P w = .ok (.enter gf args) w) {encs : α → Array Value} {Kp : World → World → Prop} {xs : List α} (hseq : SeqL (n - 1) P gf lb encs Kp xs w)
    (hKt : ∀ {A B C : World}, Kp A B → Kp B C → Kp A C) (hKb : ∀ (W : World) (l : Nat) (o o' : Obj), w.heap.size ≤ l → W.heap[l]? = some o → o.isCells = false → o.isWalk = false → Kp W (W.putObj l o'))
    (hps : ∀ x, (encs x).size = ps.size)
    (I : Nat → World → Prop) (Ix : Code → Nat → World → Prop) (hI : OwnFrom w.heap.size I) (hIx : ∀ c, OwnFrom w.heap.size (Ix c))
    (h0 : I 0 w) (a₁ : α → Act)
    (hassign : ∀ (l : Nat) (x : α) (W : World) (K : Act → World → Prop), K (a₁ x) W →
      assign.wpIn (Fence.wide.inRound l) (n - 1 - 1) P (Exit.then K (fun _ _ _ => False)) { tmps := (ps.zip (encs x)).foldl (fun t (p, v) => t.setIfInBounds p v) a.tmps, defers := [] } W)
    (hbody : ∀ (l k : Nat) (h : k < xs.length) (W : World), I k W → body.wpIn (Fence.wide.inRound l) (n - 1 - 1) P (postL w.heap.size Kp I Ix k W) (a₁ xs[k]) W)
    (hdone : ∀ (D : Nat) (W : World), w.heap.size ≤ D → I xs.length W → W.heap[D]? = some (.deferred (some [])) → Q .normal { a with defers := { target := .collected D, args := #[] } :: a.defers } W)
    (hstop : ∀ (D : Nat) (c : Code) (k : Nat) (W : World), w.heap.size ≤ D → k < xs.length → Ix c k W → W.heap[D]? = some (.deferred (some [])) → c.wpIn Fence.wide n P Q { a with defers := { target := .collected D, args := #[] } :: a.defers } W) :
    (Code.rangeFunc g ps assign body).wpIn Fence.wide n P Q a w := by
  refine wpIn_rangeFunc fun fn _ => ?_
  generalize hD : w.heap.size = D at *
  let r : Loop := { state := .ready, pending := none, fn, tmps := a.tmps, params := ps, assign, body, defers := D }
  let w1 : World := (w.alloc (.deferred (some []))).alloc (.loop r)
  have bk1 : Book D r w1 := by
    refine ⟨?_, ?_⟩
    · have := World.alloc_heap_new (w.alloc (.deferred (some []))) (.loop r)
      rwa [World.size_alloc, hD] at this
    · have := World.alloc_heap_new w (.deferred (some []))
      rw [hD] at this
      exact (Below.heap_alloc _ _ _ (by simp; omega)).trans this
  have i1 : I 0 w1 := hI.alloc _ (hI.alloc _ h0)
  have b1 : Below w.heap.size w w1 := ((Below.refl _ w).alloc (Nat.le_refl _) _).alloc (by simp) _
  refine ⟨D + 1, [{ target := .collected D, args := #[] }], w1, { target := .fn (.func gf) lb, args := #[.func (.yield (D + 1)) #[] #[]] }, w1, gf, #[.func (.yield (D + 1)) #[] #[]] ++ lb, w1, ?_, ?_, fun _ _ => trivial, ?_, fun _ => h1, ?_⟩
  · rw [← hD]
    have := run_enterLoop_outer (P := P) (w := w) fn a.tmps ps assign body
    simp only [w1, r, ← hD]
    exact this
  · simp only [resolve, hg]
    simp [go_sem]
  · simp [invoke, go_sem, eg]
  · refine (hseq (D + 1) (fun k W => I k W ∧ Book D r W) (fun k W => ∃ c, Ix c k W ∧ Book D { r with state := .done, pending := some c } W) w1 b1 ?_ ⟨i1, bk1⟩).mono ?_
    · rintro k hk W ⟨hi, hb⟩
      refine ⟨fn, _, assign, body, run_yield hb.1 (hps xs[k]), roundIn_of_wpIn trivial (hassign _ xs[k] W _ ⟨_, run_beginRound hb.1 rfl, ?_⟩)⟩
      have hb2 := hb.put { r with state := .busy }
      have k2 : Kp W (W.putObj (D + 1) (.loop { r with state := .busy })) := hKb _ _ _ _ (by omega) hb.1 rfl rfl
      refine wpIn_mono (hbody _ k hk _ (hI.putObj _ hi (by omega) hb.1 rfl)) fun e a3 W3 hp => ?_
      have left : ∀ c, KeepsFrom D (W.putObj (D + 1) (.loop { r with state := .busy })) W3 → Ix c k W3 → ∃ v W4, (Instr.endRound (D + 1) (some c)).run P W3 = .ok v W4 ∧ ((Ending.returned v = .returned (.bool true) ∧ (I (k + 1) W4 ∧ Book D r W4) ∧ Kp W W4) ∨ (Ending.returned v = .returned (.bool false) ∧ ∃ c, Ix c k W4 ∧ Book D { r with state := .done, pending := some c } W4)) := fun c hk' hi3 => by
        obtain ⟨hr, hl, hb4⟩ := round_end (P := P) hb2 (some c) hk'
        exact ⟨_, _, hr, .inr ⟨rfl, c, (hIx c).putObj _ hi3 (by omega) hl rfl, hb4⟩⟩
      cases e with
      | normal =>
        obtain ⟨hk', hkp, hi3⟩ := hp
        obtain ⟨hr, hl, hb4⟩ := round_end (P := P) hb2 none hk'
        exact ⟨_, _, hr, .inl ⟨rfl, ⟨hI.putObj _ hi3 (by omega) hl rfl, hb4⟩, hKt (hKt k2 hkp) (hKb _ _ _ _ (by omega) hl rfl rfl)⟩⟩
      | ret => exact left _ hp.1 hp.2
      | exit id => exact left _ hp.1 hp.2
      | goto t => exact left _ hp.1 hp.2
      | panic _ => exact hp.elim
      | outgrown => exact hp.elim
    · rintro e W2 ⟨⟨v, rfl⟩, (⟨hi, hb⟩ | ⟨k, hk, c, hi, hb⟩)⟩
      · exact ⟨none, _, run_endLoop hb.1 (by simp [r]), hdone _ _ (Nat.le_refl _) (hI.putObj _ hi (by omega) hb.1 rfl) (hb.put _).2⟩
      · exact ⟨some c, _, run_endLoop hb.1 (by simp), hstop _ c k _ (Nat.le_refl _) hk ((hIx c).putObj _ hi (by omega) hb.1 rfl) (hb.put _).2⟩
end

end Go.Proofs.Ytdkpbfigjdmfpaa

/- Memory that changes at some blocks alone; disks in memory; disk's small functions. Own work; no statement. -/
set_option linter.unusedSimpArgs false
set_option linter.unusedVariables false
namespace Go.Proofs.Ytdkpbfigjdmfpaa
open Go.RowKit Go.Shelf

/-- From w to w' nothing has changed of what there was, but for the blocks of S. -/
structure Touch (S : Nat → Prop) (w w' : World) : Prop where
  os : w'.os = w.os
  tape : w'.tape = w.tape
  output : w'.output = w.output
  size : w.heap.size ≤ w'.heap.size
  block : ∀ k, k < w.heap.size → ¬ S k → w'.heap[k]? = w.heap[k]?

theorem Touch.refl (S : Nat → Prop) (w : World) : Touch S w w := ⟨rfl, rfl, rfl, Nat.le_refl _, fun _ _ _ => rfl⟩
theorem Touch.next {S S1 : Nat → Prop} {a b c : World} (h : Touch S a b) (k : Touch S1 b c) (hs : ∀ i, i < a.heap.size → S1 i → S i) : Touch S a c :=
  ⟨k.os.trans h.os, k.tape.trans h.tape, k.output.trans h.output, Nat.le_trans h.size k.size, fun i hi hS => (k.block i (Nat.lt_of_lt_of_le hi h.size) (fun e => hS (hs i hi e))).trans (h.block i hi hS)⟩
theorem Touch.trans {S : Nat → Prop} {a b c : World} (h : Touch S a b) (k : Touch S b c) : Touch S a c := h.next k fun _ _ e => e
theorem Touch.mono {S S' : Nat → Prop} {w w' : World} (h : Touch S w w') (hs : ∀ k, k < w.heap.size → S k → S' k) : Touch S' w w' :=
  ⟨h.os, h.tape, h.output, h.size, fun k hk hS => h.block k hk fun e => hS (hs k hk e)⟩
theorem touch_of_below {S : Nat → Prop} {B : Nat} {w w' : World} (h : Below B w w') (hS : ∀ k, k < w.heap.size → B ≤ k → S k) : Touch S w w' :=
  ⟨h.os, h.tape, h.output, h.size, fun k hk hn => h.block k (Nat.lt_of_not_le fun hb => hn (hS k hk hb))⟩
theorem touch_new {S : Nat → Prop} {w w' : World} (h : Below w.heap.size w w') : Touch S w w' := touch_of_below h fun k h1 h2 => absurd h1 (by omega)
theorem Touch.below {S : Nat → Prop} {w w' : World} {B : Nat} (h : Touch S w w') (hb : B ≤ w.heap.size) (hB : ∀ k, k < w.heap.size → S k → B ≤ k) : Below B w w' :=
  ⟨h.os, h.tape, h.output, h.size, fun k hk => h.block k (by omega) fun e => by have := hB k (by omega) e; omega⟩
theorem touch_set {S : Nat → Prop} (w : World) (a : Addr) (v : Value) (h : S a.block) : Touch S w (w.setCell a v) :=
  ⟨rfl, rfl, rfl, by simp [World.setCell], fun k _ hn => Below.heap_setCell _ _ _ _ (fun e => hn (e ▸ h))⟩
theorem Touch.set {S : Nat → Prop} {w w' : World} (t : Touch S w w') (a : Addr) (v : Value) (h : S a.block) : Touch S w (w'.setCell a v) := t.trans (touch_set w' a v h)
theorem Touch.alloc {S : Nat → Prop} {w w' : World} (t : Touch S w w') (o : Obj) : Touch S w (w'.alloc o) := t.trans (touch_new ((Below.refl _ w').alloc (Nat.le_refl _) o))
theorem Touch.drew {S : Nat → Prop} {w w' : World} (t : Touch S w w') : Touch S w w'.drew := ⟨t.os, t.tape, t.output, t.size, t.block⟩
theorem Touch.new {S : Nat → Prop} {w w' w2 : World} (t : Touch S w w') (h : Below w'.heap.size w' w2) : Touch S w w2 := t.trans (touch_new h)
/-- What is new since w may be changed at will. -/
theorem Touch.upper {S S1 : Nat → Prop} {a b c : World} (h : Touch S a b) (k : Touch S1 b c) (hs : ∀ i, S1 i → a.heap.size ≤ i) : Touch S a c := h.next k fun i hi e => absurd (hs i e) (by omega)

theorem ownFrom_touch {β : Type} {S : Nat → Prop} {w : World} {B : Nat} (hB : w.heap.size ≤ B) : OwnFrom B (fun (_ : β) W => Touch S w W) := fun _ W W' row h hg hr =>
  h.next (S1 := fun k => row = some k) ⟨hg.os, hg.tape, hg.output, hg.size, fun k hk hn => hg.block k hk fun e => hn e.symm⟩ fun i hi e => absurd ((hr i e).1) (by omega)

theorem Touch.of_touch {S : Nat → Prop} {a b c : World} (k : Touch S b c) (h : Below a.heap.size a b) : Touch S a c := (touch_new h).trans k
theorem drewsB (w : World) (n : Nat) : Below w.heap.size w (w.drewN n) := ⟨rfl, rfl, rfl, Nat.le_refl _, fun _ _ => rfl⟩
theorem Touch.drewN {S : Nat → Prop} {w w' : World} (t : Touch S w w') (n : Nat) : Touch S w (w'.drewN n) := t.new (drewsB w' n)

theorem cellsAt {W : World} {b : Nat} {c : Array Value} {t : TypeId} {f : Nat × Nat} (h : W.heap[b]? = some (.cells c t f)) (j : Nat) : W.cell? ⟨b, j, none⟩ = c[j]? := by
  simp [World.cell?, h]
theorem frozenAt {W : World} {b : Nat} {c : Array Value} {t : TypeId} (h : W.heap[b]? = some (.cells c t (0, 0))) (j : Nat) : W.frozen? ⟨b, j, none⟩ = false := by
  simp [World.frozen?, h]
theorem setAt {W : World} {b j : Nat} {c : Array Value} {t : TypeId} {f : Nat × Nat} (h : W.heap[b]? = some (.cells c t f)) (v : Value) : (W.setCell ⟨b, j, none⟩ v).heap[b]? = some (.cells (c.setIfInBounds j v) t f) := by
  simp [World.setCell, Array.getElem?_modify, h]
theorem ltAt {W : World} {b : Nat} {o : Obj} (h : W.heap[b]? = some o) : b < W.heap.size := (Array.getElem?_eq_some_iff.1 h).1

/-- A row is no block of another type. -/
theorem row_not {W : World} {B e : Nat} {v : Value} {n s b : Nat} {xs : List Value} {c : Array Value} {t : TypeId} {f : Nat × Nat} (h : W.ownsRow B e s v n xs) (hb : W.heap[b]? = some (.cells c t f)) (ht : t ≠ e) : some b ≠ v.ownBlock := fun he => by
  rcases h.2 with ⟨rfl, _⟩ | ⟨g', cap', cur, rfl, _, hg', _⟩
  · cases he
  · obtain rfl : b = g' := by simpa [Value.ownBlock] using he
    rw [hb] at hg'
    simp only [Option.some.injEq, Obj.cells.injEq] at hg'
    exact ht hg'.2.1

theorem frozen_alloc {w : World} {a : Addr} {v : Value} {o : Obj} (h : w.cell? a = some v) : (w.alloc o).frozen? a = w.frozen? a :=
  ((Below.refl _ w).alloc (Nat.le_refl _) o).frozen (p := a) (World.block_lt_of_cell? w _ h)

/-- A call of a Go function by its contract, as a step of a region that draws. -/
theorem stepCall {P : Program} {ops : Array Oper} {o : Oper} {a : Act} {w : World} {K : Act → World → Prop} {Q : Exit → Act → World → Prop} {E : Prop} (hg : o.guard = none) (f : FuncId) (args : Array Value) {R : Ending → World → Prop} (hrun : (execOp a.eval o).run P w = .ok (.enter f args) w) (hc : Calls P f args w R)
    (hR : ∀ e w', R e w' → ∃ v, e = .returned v ∧ K (a.put o.dst v) w') : if Region.wanted o (yielded ops a.tmps) = true then Oper.wp P o a w K Q else E := by
  rw [if_pos (by simp [Region.wanted, hg])]
  unfold Oper.wp
  rw [hrun]
  simp only [Oper.upon]
  refine hc.mono fun e w' h => ?_
  obtain ⟨v, rfl, hk⟩ := hR e w' h
  exact hk

/-- A region whose head only reads, and whose tail comes in one order. -/
theorem stillTail {P : Program} {id : Nat} {Q : Exit → Act → World → Prop} {a : Act} {w : World} {l : List Oper} (n : Nat) (hm : P.follows .mixedOrders = true) (hB : Region.lexTailB .any l.toArray n = true)
    (h : wpStill P l.toArray w.drew (fun a' => wpList P l.toArray Q (l.drop n) a' w.drew) (l.take n) a) : (Code.region id l.toArray true).wp P Q a w := wp_region_still_tail n hm hB h

/-- What a disk has. -/
structure DiskD where
  room : Int
  lines : List ByteArray
  lasts : Nat

/-- The bytes of lines, with their ends. -/
def bytesOf (l : List ByteArray) : Nat := (l.map (fun s => s.size + 1)).sum

theorem bytesOf_append (a b : List ByteArray) : bytesOf (a ++ b) = bytesOf a + bytesOf b := by simp [bytesOf]
theorem bytesOf_length (l : List ByteArray) : l.length ≤ bytesOf l := by
  induction l with
  | nil => simp [bytesOf]
  | cons x r ih => simp [bytesOf] at *; omega
theorem bytesOf_take (l : List ByteArray) (k : Nat) : bytesOf (l.take k) + bytesOf (l.drop k) = bytesOf l := by
  rw [← bytesOf_append, List.take_append_drop]
theorem bytesOf_mem {l : List ByteArray} {s : ByteArray} (h : s ∈ l) : s.size + 1 ≤ bytesOf l := by
  induction l with
  | nil => cases h
  | cons x r ih =>
    simp [bytesOf] at *
    rcases h with rfl | h
    · omega
    · have := ih h; omega

structure DiskD.ok (D : DiskD) : Prop where
  low : 1 ≤ D.room
  high : D.room ≤ 1048576
  fits : (bytesOf D.lines : Int) ≤ D.room
  lasts : D.lasts ≤ D.lines.length

/-- The blocks of a disk. -/
def onDisk (p : Nat) (g : Option Nat) (k : Nat) : Prop := k = p ∨ g = some k

/-- A row of texts, cell by cell. -/
theorem strs_cell {w : World} {B : Nat} {e : TypeId} {a : Option Addr} {cap : Nat} {l : List ByteArray} (h : w.ownsRow B e 1 (.slice a l.length cap) l.length (l.map Value.string)) (t : Nat) (ht : t < l.length) :
    ∃ b, a = some ⟨b, 0, none⟩ ∧ w.cell? ⟨b, t, none⟩ = some (.string l[t]) := by
  rcases h.2 with ⟨e', h0⟩ | ⟨g, cap', cur, e', _⟩
  · omega
  · simp only [Value.slice.injEq] at e'
    obtain ⟨rfl, -, rfl⟩ := e'
    refine ⟨g, rfl, ?_⟩
    rw [h.cellAt t (by omega)]
    simp [ht]

end Go.Proofs.Ytdkpbfigjdmfpaa

/- Drafts, tokens and slots in memory: what a value, a slice reads as; rows of one's own. Own work; no statement. -/
set_option linter.unusedSimpArgs false
set_option linter.unusedVariables false
namespace Go.Proofs.Ytdkpbfigjdmfpaa
open Go.RowKit Go.Shelf

/-- A draft, and the slice of its numbers. -/
structure Dv where
  d : DrD
  vd : Value
def Dv.cells (q : Dv) : List Value := [.int .i64 q.d.ticket, .int .i64 q.d.r.site, .int .i64 q.d.r.seq, q.vd, .string q.d.r.key, .string q.d.r.val]
theorem Dv.cells_length (q : Dv) : q.cells.length = 6 := rfl

/-- The value reads as the draft. -/
def IsDr (w : World) (v : Value) (d : DrD) : Prop :=
  ∃ a cap, v = .agg #[.int .i64 d.ticket, .int .i64 d.r.site, .int .i64 d.r.seq, .slice a d.r.dep.length cap, .string d.r.key, .string d.r.val] ∧ IsNums .i64 w (.slice a d.r.dep.length cap) d.r.dep
theorem IsDr.below {w w' : World} {v : Value} {d : DrD} (h : IsDr w v d) (hb : RowKit.Below w.heap.size w w') : IsDr w' v d := by
  obtain ⟨a, cap, rfl, hn⟩ := h
  exact ⟨a, cap, rfl, hn.below hb⟩
/-- At ⟨b, o⟩ there lies the draft. -/
def DrAt (w : World) (b o : Nat) (d : DrD) : Prop :=
  ∃ a cap, w.cell? ⟨b, o, none⟩ = some (.int .i64 d.ticket) ∧ w.cell? ⟨b, o + 1, none⟩ = some (.int .i64 d.r.site) ∧ w.cell? ⟨b, o + 2, none⟩ = some (.int .i64 d.r.seq) ∧ w.cell? ⟨b, o + 3, none⟩ = some (.slice a d.r.dep.length cap) ∧ w.cell? ⟨b, o + 4, none⟩ = some (.string d.r.key) ∧ w.cell? ⟨b, o + 5, none⟩ = some (.string d.r.val) ∧
    IsNums .i64 w (.slice a d.r.dep.length cap) d.r.dep
theorem DrAt.below {w w' : World} {b o : Nat} {d : DrD} (h : DrAt w b o d) (hb : RowKit.Below w.heap.size w w') : DrAt w' b o d := by
  obtain ⟨a, cap, h0, h1, h2, h3, h4, h5, hn⟩ := h
  have hlt : b < w.heap.size := World.block_lt_of_cell? w _ h0
  exact ⟨a, cap, (hb.cell (p := ⟨b, o, none⟩) hlt).trans h0, (hb.cell (p := ⟨b, o + 1, none⟩) hlt).trans h1, (hb.cell (p := ⟨b, o + 2, none⟩) hlt).trans h2, (hb.cell (p := ⟨b, o + 3, none⟩) hlt).trans h3, (hb.cell (p := ⟨b, o + 4, none⟩) hlt).trans h4, (hb.cell (p := ⟨b, o + 5, none⟩) hlt).trans h5, hn.below hb⟩

/-- In the world w the slice v reads as the drafts l. -/
def IsDrs (w : World) (v : Value) (l : List DrD) : Prop :=
  ∃ a cap, v = .slice a l.length cap ∧ l.length ≤ cap ∧ (a = none → cap = 0) ∧ ∀ t (h : t < l.length), ∃ b o, a = some ⟨b, o, none⟩ ∧ DrAt w b (o + t * 6) l[t]
theorem IsDrs.nil (w : World) : IsDrs w (.slice none 0 0) [] := ⟨none, 0, rfl, Nat.le_refl _, fun _ => rfl, fun t h => absurd h (Nat.not_lt_zero t)⟩
theorem IsDrs.below {w w' : World} {v : Value} {l : List DrD} (h : IsDrs w v l) (hb : RowKit.Below w.heap.size w w') : IsDrs w' v l := by
  obtain ⟨a, cap, rfl, hc, h0, h⟩ := h
  exact ⟨a, cap, rfl, hc, h0, fun t ht => let ⟨b, o, e, hr⟩ := h t ht; ⟨b, o, e, hr.below hb⟩⟩
theorem IsDrs.form {w : World} {v : Value} {l : List DrD} (h : IsDrs w v l) : ∃ a cap, v = .slice a l.length cap := by
  obtain ⟨a, cap, rfl, -⟩ := h
  exact ⟨a, cap, rfl⟩
/-- One of them, as a slice: v[i:i+1]. -/
theorem IsDrs.one {w : World} {a : Option Addr} {cap : Nat} {l : List DrD} (h : IsDrs w (.slice a l.length cap) l) (i : Nat) (hi : i < l.length) : ∃ b o, a = some ⟨b, o, none⟩ ∧ i + 1 ≤ cap ∧ IsDrs w (.slice (some ⟨b, o + i * 6, none⟩) 1 (cap - i)) [l[i]] := by
  obtain ⟨a', cap', e, hc, h0, h⟩ := h
  cases e
  obtain ⟨b, o, rfl, hr⟩ := h i hi
  refine ⟨b, o, rfl, by omega, some ⟨b, o + i * 6, none⟩, cap - i, rfl, by simp; omega, (fun e => by cases e), fun t ht => ?_⟩
  obtain rfl : t = 0 := by simpa using ht
  exact ⟨b, o + i * 6, rfl, by simpa using hr⟩

/-- The value reads as the token. -/
def IsTok (w : World) (v : Value) (t : TokD) : Prop :=
  ∃ sa sc la lc, v = .agg #[.int .i64 t.own, .int .i64 t.next, .slice sa t.seen.length sc, .slice la t.late.length lc] ∧ IsNums .i64 w (.slice sa t.seen.length sc) t.seen ∧ IsDrs w (.slice la t.late.length lc) t.late
theorem IsTok.below {w w' : World} {v : Value} {t : TokD} (h : IsTok w v t) (hb : RowKit.Below w.heap.size w w') : IsTok w' v t := by
  obtain ⟨sa, sc, la, lc, rfl, h1, h2⟩ := h
  exact ⟨sa, sc, la, lc, rfl, h1.below hb, h2.below hb⟩

/-- In the world w the slice v reads as the slots l. -/
def IsSls (w : World) (v : Value) (l : List (Int × DrD)) : Prop :=
  ∃ a cap, v = .slice a l.length cap ∧ ∀ t (h : t < l.length), ∃ b o, a = some ⟨b, o, none⟩ ∧ w.cell? ⟨b, o + t * 7, none⟩ = some (.int .i64 l[t].1) ∧ DrAt w b (o + t * 7 + 1) l[t].2
theorem IsSls.below {w w' : World} {v : Value} {l : List (Int × DrD)} (h : IsSls w v l) (hb : RowKit.Below w.heap.size w w') : IsSls w' v l := by
  obtain ⟨a, cap, rfl, h⟩ := h
  refine ⟨a, cap, rfl, fun t ht => ?_⟩
  obtain ⟨b, o, e, h1, h2⟩ := h t ht
  exact ⟨b, o, e, (hb.cell (p := ⟨b, o + t * 7, none⟩) (World.block_lt_of_cell? w _ h1)).trans h1, h2.below hb⟩
theorem IsSls.form {w : World} {v : Value} {l : List (Int × DrD)} (h : IsSls w v l) : ∃ a cap, v = .slice a l.length cap := by
  obtain ⟨a, cap, rfl, -⟩ := h
  exact ⟨a, cap, rfl⟩

/-! ### What readings hang on -/

theorem IsNums.agree {k : IntKind} {w X : World} {v : Value} {l : List Int} (h : IsNums k w v l) (hx : ∀ i, i < w.heap.size → X.heap[i]? = w.heap[i]?) : IsNums k X v l := by
  obtain ⟨a, cap, rfl, hc, h⟩ := h
  refine ⟨a, cap, rfl, hc, fun t ht => ?_⟩
  obtain ⟨b, o, rfl, h'⟩ := h t ht
  exact ⟨b, o, rfl, (World.cell?_of_block (a := ⟨b, o + t, none⟩) (hx b (World.block_lt_of_cell? w _ h'))).trans h'⟩
theorem DrAt.agree {w X : World} {b o : Nat} {d : DrD} (h : DrAt w b o d) (hx : ∀ i, i < w.heap.size → X.heap[i]? = w.heap[i]?) : DrAt X b o d := by
  obtain ⟨a, cap, h0, h1, h2, h3, h4, h5, hn⟩ := h
  have hb := hx b (World.block_lt_of_cell? w _ h0)
  have hc : ∀ j, X.cell? ⟨b, j, none⟩ = w.cell? ⟨b, j, none⟩ := fun j => World.cell?_of_block (a := ⟨b, j, none⟩) hb
  exact ⟨a, cap, (hc _).trans h0, (hc _).trans h1, (hc _).trans h2, (hc _).trans h3, (hc _).trans h4, (hc _).trans h5, hn.agree hx⟩
theorem IsDrs.agree {w X : World} {v : Value} {l : List DrD} (h : IsDrs w v l) (hx : ∀ i, i < w.heap.size → X.heap[i]? = w.heap[i]?) : IsDrs X v l := by
  obtain ⟨a, cap, rfl, hc, h0, h⟩ := h
  exact ⟨a, cap, rfl, hc, h0, fun t ht => let ⟨b, o, e, hr⟩ := h t ht; ⟨b, o, e, hr.agree hx⟩⟩
theorem IsTok.agree {w X : World} {v : Value} {t : TokD} (h : IsTok w v t) (hx : ∀ i, i < w.heap.size → X.heap[i]? = w.heap[i]?) : IsTok X v t := by
  obtain ⟨sa, sc, la, lc, rfl, h1, h2⟩ := h
  exact ⟨sa, sc, la, lc, rfl, h1.agree hx, h2.agree hx⟩

/-- The value reads as the token wherever the blocks of K are as they are. -/
def TokS (K : Nat → Prop) (w : World) (v : Value) (t : TokD) : Prop := ∀ X : World, (∀ k, K k → k < w.heap.size → X.heap[k]? = w.heap[k]?) → IsTok X v t
theorem TokS.tok {K : Nat → Prop} {w : World} {v : Value} {t : TokD} (h : TokS K w v t) : IsTok w v t := h w fun _ _ _ => rfl
theorem TokS.mono {K K' : Nat → Prop} {w : World} {v : Value} {t : TokD} (h : TokS K w v t) (hk : ∀ k, k < w.heap.size → K k → K' k) : TokS K' w v t := fun X hX => h X fun k h1 h2 => hX k (hk k h2 h1) h2
theorem TokS.touch {K S : Nat → Prop} {w w' : World} {v : Value} {t : TokD} (h : TokS K w v t) (ht : Touch S w w') (hs : ∀ k, K k → ¬ S k) : TokS K w' v t := fun X hX => h X fun k h1 h2 => (hX k h1 (by have := ht.size; omega)).trans (ht.block k h2 (hs k h1))
theorem TokS.new {K : Nat → Prop} {w w' : World} {v : Value} {t : TokD} (h : TokS K w v t) (hb : RowKit.Below w.heap.size w w') : TokS K w' v t := fun X hX => h X fun k h1 h2 => (hX k h1 (by have := hb.size; omega)).trans (hb.block k h2)
theorem IsTok.low {w : World} {v : Value} {t : TokD} (h : IsTok w v t) : TokS (fun k => k < w.heap.size) w v t := fun _ hX => h.agree fun k hk => hX k hk hk
/-- The value reads as the slots wherever the blocks of K are as they are. -/
def SlsS (K : Nat → Prop) (w : World) (v : Value) (l : List (Int × DrD)) : Prop := ∀ X : World, (∀ k, K k → k < w.heap.size → X.heap[k]? = w.heap[k]?) → IsSls X v l
theorem SlsS.sls {K : Nat → Prop} {w : World} {v : Value} {l : List (Int × DrD)} (h : SlsS K w v l) : IsSls w v l := h w fun _ _ _ => rfl
theorem SlsS.touch {K S : Nat → Prop} {w w' : World} {v : Value} {l : List (Int × DrD)} (h : SlsS K w v l) (ht : Touch S w w') (hs : ∀ k, K k → ¬ S k) : SlsS K w' v l := fun X hX => h X fun k h1 h2 => (hX k h1 (by have := ht.size; omega)).trans (ht.block k h2 (hs k h1))
theorem SlsS.new {K : Nat → Prop} {w w' : World} {v : Value} {l : List (Int × DrD)} (h : SlsS K w v l) (hb : RowKit.Below w.heap.size w w') : SlsS K w' v l := fun X hX => h X fun k h1 h2 => (hX k h1 (by have := hb.size; omega)).trans (hb.block k h2)

/-! ### Rows of one's own -/

theorem flat6 : ∀ (l : List Dv) (t j : Nat) (h : t < l.length), j < 6 → (l.flatMap Dv.cells)[t * 6 + j]? = l[t].cells[j]?
  | x :: r, 0, j, _, hj => by
    rw [List.flatMap_cons, Nat.zero_mul, Nat.zero_add, List.getElem?_append_left (by rw [Dv.cells_length]; exact hj)]
    rfl
  | x :: r, t + 1, j, h, hj => by
    rw [List.flatMap_cons, List.getElem?_append_right (by rw [Dv.cells_length]; omega), Dv.cells_length, show (t + 1) * 6 + j - 6 = t * 6 + j by omega]
    exact flat6 r t j (by simpa using h) hj
theorem flat6_length : ∀ l : List Dv, (l.flatMap Dv.cells).length = l.length * 6
  | [] => rfl
  | x :: r => by rw [List.flatMap_cons, List.length_append, flat6_length r, Dv.cells_length, List.length_cons]; omega

/-- Cells that lie in a row from some place on, as a draft. -/
theorem drAt_of {w : World} {b o : Nat} {q : Dv} (hc : ∀ j, j < 6 → w.cell? ⟨b, o + j, none⟩ = q.cells[j]?) (hn : IsNums .i64 w q.vd q.d.r.dep) : DrAt w b o q.d := by
  obtain ⟨a, cap, e⟩ := hn.form
  have c0 := hc 0 (by omega)
  have c1 := hc 1 (by omega)
  have c2 := hc 2 (by omega)
  have c3 := hc 3 (by omega)
  have c4 := hc 4 (by omega)
  have c5 := hc 5 (by omega)
  simp only [Dv.cells, List.getElem?_cons_zero, List.getElem?_cons_succ, Nat.add_zero] at c0 c1 c2 c3 c4 c5
  rw [e] at c3 hn
  exact ⟨a, cap, c0, c1, c2, c3, c4, c5, hn⟩
/-- A row of one's own, as drafts. -/
theorem drs_of_row {w : World} {B : Nat} {e : TypeId} {v : Value} {l : List Dv} (h : w.ownsRow B e 6 v l.length (l.flatMap Dv.cells)) (hn : ∀ q ∈ l, IsNums .i64 w q.vd q.d.r.dep) : IsDrs w v (l.map (·.d)) := by
  rcases h.2 with ⟨rfl, h0⟩ | ⟨g, cap, cur, rfl, hb, hg, hnc, hcm, hcs, ht⟩
  · obtain rfl : l = [] := List.eq_nil_of_length_eq_zero h0
    exact IsDrs.nil w
  · refine ⟨some ⟨g, 0, none⟩, cap, by rw [List.length_map], by rw [List.length_map]; exact hnc, (fun e => by cases e), fun t ht' => ⟨g, 0, rfl, ?_⟩⟩
    rw [List.length_map] at ht'
    rw [List.getElem_map, Nat.zero_add]
    exact drAt_of (fun j hj => by rw [h.cellAt (t * 6 + j) (by omega), flat6 l t j ht' hj]) (hn _ (List.getElem_mem ht'))

/-- A slot. -/
structure Sv where
  pos : Int
  q : Dv
def Sv.cells (s : Sv) : List Value := .int .i64 s.pos :: s.q.cells
def Sv.dat (s : Sv) : Int × DrD := (s.pos, s.q.d)
theorem flat7 : ∀ (l : List Sv) (t j : Nat) (h : t < l.length), j < 7 → (l.flatMap Sv.cells)[t * 7 + j]? = l[t].cells[j]?
  | x :: r, 0, j, _, hj => by
    rw [List.flatMap_cons, Nat.zero_mul, Nat.zero_add, List.getElem?_append_left (by show j < 7; exact hj)]
    rfl
  | x :: r, t + 1, j, h, hj => by
    rw [List.flatMap_cons, List.getElem?_append_right (by show 7 ≤ (t + 1) * 7 + j; omega), show (t + 1) * 7 + j - x.cells.length = t * 7 + j by show (t + 1) * 7 + j - 7 = t * 7 + j; omega]
    exact flat7 r t j (by simpa using h) hj
theorem sls_of_row {w : World} {B : Nat} {e : TypeId} {v : Value} {l : List Sv} (h : w.ownsRow B e 7 v l.length (l.flatMap Sv.cells)) (hn : ∀ s ∈ l, IsNums .i64 w s.q.vd s.q.d.r.dep) : IsSls w v (l.map Sv.dat) := by
  rcases h.2 with ⟨rfl, h0⟩ | ⟨g, cap, cur, rfl, hb, hg, hnc, hcm, hcs, ht⟩
  · obtain rfl : l = [] := List.eq_nil_of_length_eq_zero h0
    exact ⟨none, 0, rfl, fun t h => absurd h (Nat.not_lt_zero t)⟩
  · refine ⟨some ⟨g, 0, none⟩, cap, by rw [List.length_map], fun t ht' => ⟨g, 0, rfl, ?_⟩⟩
    rw [List.length_map] at ht'
    rw [List.getElem_map, Nat.zero_add]
    have hc : ∀ j, j < 7 → w.cell? ⟨g, t * 7 + j, none⟩ = l[t].cells[j]? := fun j hj => by rw [h.cellAt (t * 7 + j) (by omega), flat7 l t j ht' hj]
    refine ⟨by simpa [Sv.cells, Sv.dat] using hc 0 (by omega), drAt_of (q := l[t].q) (fun j hj => ?_) (hn _ (List.getElem_mem ht'))⟩
    have := hc (1 + j) (by omega)
    rw [← Nat.add_assoc] at this
    rw [this, show 1 + j = j + 1 by omega]
    simp [Sv.cells]

/-! ### Bounds -/

/-- What is seen is a vector whose numbers are few and small. -/
structure SeenOk (s : List Int) : Prop where
  len : s.length ≤ 1048576
  rng : ∀ j : Int, 0 ≤ geti s j ∧ geti s j ≤ 1048576
/-- A draft of a site that there is, with few numbers, its own one small. -/
structure DrOk (d : DrD) : Prop where
  site : 0 ≤ d.r.site ∧ d.r.site ≤ 7
  seq : 0 ≤ d.r.seq ∧ d.r.seq ≤ 1048576
  dep : d.r.dep.length ≤ 1048576
theorem withL_length (l : List Int) (i n : Int) (h1 : i ≤ 7) : (withL l i n).length ≤ max l.length 8 := by
  unfold withL
  split
  · omega
  · rw [List.length_set, stretchL_length _ _ (by omega)]
    omega
theorem SeenOk.put {own : Int} {s : List Int} {d : DrD} (h : SeenOk s) (hd : DrOk d) (hm : mayD own s d = true) : SeenOk (seenT own s d) := by
  refine ⟨?_, fun j => ?_⟩
  · have := withL_length s d.r.site (putT own s d).r.seq (by have := hd.site; omega)
    have := h.len
    unfold seenT
    omega
  · rw [seenT_get hm hd.site.1 (by have := hd.site; omega)]
    have h1 := h.rng j
    have h2 := h.rng d.r.site
    have h3 := hd.seq
    have h4 := hd.site
    split
    · unfold mayD at hm
      split at hm
      · rename_i e
        simp only [Bool.and_eq_true, decide_eq_true_eq] at hm
        rw [e]
        rw [e] at h2
        omega
      · simp only [Bool.and_eq_true, decide_eq_true_eq] at hm
        omega
    · exact h1
theorem DrOk.put {own : Int} {s : List Int} {d : DrD} (h : SeenOk s) (hd : DrOk d) (hm : mayD own s d = true) : DrOk (putT own s d) := by
  obtain ⟨h1, h2, -⟩ := putT_r (own := own) s d
  refine ⟨by rw [h1]; exact hd.site, ?_, by rw [h2]; exact hd.dep⟩
  have := (h.put hd hm).rng d.r.site
  rw [seenT_get hm hd.site.1 (by have := hd.site; omega), if_pos rfl] at this
  rw [(may_put hm).1]
  exact this

theorem Try.info41 : (Try.prog.info? 41).map (fun i => (i.zero, i.size, i.bytes)) = some (some (.agg #[.int .i64 0, .int .i64 0, .int .i64 0, .slice none 0 0, .string ⟨#[]⟩, .string ⟨#[]⟩]), 6, 80) := by kernel_rfl
theorem Try.info46 : (Try.prog.info? 46).map (fun i => (i.zero, i.size, i.bytes)) = some (some (.agg #[.int .i64 0, .int .i64 0, .int .i64 0, .slice none 0 0, .string ⟨#[]⟩, .string ⟨#[]⟩]), 6, 80) := by kernel_rfl
theorem Try.info58 : (Try.prog.info? 58).map (fun i => (i.zero, i.size, i.bytes)) = some (some (.agg #[.int .i64 0, .int .i64 0, .int .i64 0, .int .i64 0, .slice none 0 0, .string ⟨#[]⟩, .string ⟨#[]⟩]), 7, 88) := by kernel_rfl
theorem Try.info80 : (Try.prog.info? 80).map (fun i => (i.zero, i.size, i.bytes)) = some (some (.agg #[.int .i64 0, .int .i64 0, .int .i64 0, .int .i64 0, .slice none 0 0, .string ⟨#[]⟩, .string ⟨#[]⟩]), 7, 88) := by kernel_rfl

theorem one6 {q : Dv} {a : Option Addr} {n c : Nat} (h : q.vd = .slice a n c) : ∀ u ∈ q.cells, u.oneCell' = true := by
  intro u hu
  simp only [Dv.cells, h, List.mem_cons, List.not_mem_nil, or_false] at hu
  rcases hu with rfl | rfl | rfl | rfl | rfl | rfl <;> rfl
theorem one7 {s : Sv} {a : Option Addr} {n c : Nat} (h : s.q.vd = .slice a n c) : ∀ u ∈ s.cells, u.oneCell' = true := by
  intro u hu
  rcases List.mem_cons.1 hu with rfl | hu
  · rfl
  · exact one6 h u hu

end Go.Proofs.Ytdkpbfigjdmfpaa

/- token's inTurn, May, Check: whether a draft may come. Own work; no statement. -/
set_option linter.unusedSimpArgs false
set_option linter.unusedVariables false
namespace Go.Proofs.Ytdkpbfigjdmfpaa
open Go.RowKit Go.Shelf Go.Sort

def turnD (own : Int) (s : List Int) (r : RecD) : Bool := if r.site = own then decide (r.seq = 0) && decide (geti s own < 1048576) else decide (r.seq = geti s r.site + 1)
theorem mayD_turn (own : Int) (s : List Int) (d : DrD) : mayD own s d = (turnD own s d.r && everyB covB s d.r.dep) := by
  unfold mayD turnD
  split <;> rfl

set_option maxHeartbeats 1000000 in
theorem inTurn_calls (vt vr : Value) (t : TokD) (r : RecD) (w : World) (ht : IsTok w vt t) (hr : IsRec w vr r) (hs : SeenOk t.seen) :
    Calls Try.prog 32 #[vt, vr] w fun e w' => e = .returned (.bool (turnD t.own t.seen r)) ∧ RowKit.Below w.heap.size w w' := by
  obtain ⟨c, hc⟩ : ∃ c, turnD t.own t.seen r = c := ⟨_, rfl⟩
  rw [hc]
  unfold turnD at hc
  have Hc := hide hc
  clear hc
  obtain ⟨own, next, seen, late⟩ := t
  obtain ⟨site, seq, dep, key, val⟩ := r
  obtain ⟨sa, sc, la, lc, rfl, hn, -⟩ := ht
  obtain ⟨a, cap, rfl, -⟩ := hr
  dsimp only at *
  have hl := hs.len
  have hg := hs.rng site
  have Hn := hide (fun w' (hb : RowKit.Below w.heap.size w w') => get_calls _ seen site w' (hn.below hb) (by omega))
  clear hn hs
  obtain ⟨g, hgg⟩ : ∃ g, geti seen site = g := ⟨_, rfl⟩
  rw [hgg] at hg Hn
  have Hgg := hide hgg
  clear hgg
  go_enter Try.func32, Try.ntmps32
  go_wp2_with fail
  refine (Hn.out _ (((RowKit.Below.refl _ w).alloc (Nat.le_refl _) _).alloc (by simp) _)).mono ?_
  rintro e w1 ⟨rfl, rfl⟩
  have hend : RowKit.Below w.heap.size w ((w.alloc (.cells #[.int .i64 own, .int .i64 next, .slice sa seen.length sc, .slice la late.length lc] 26)).alloc (.cells #[.int .i64 site, .int .i64 seq, .slice a dep.length cap, .string key, .string val] 39)) := ((RowKit.Below.refl _ w).alloc (Nat.le_refl _) _).alloc (by simp) _
  have Hend := hide hend
  clear hend
  by_cases hso : site = own
  · subst hso
    have hsb : (site == site) = true := by simp
    have hc := Hc.out
    rw [if_pos rfl, Hgg.out] at hc
    clear Hc Hgg
    by_cases hq : seq = 0
    · subst hq
      have hqb : ((0 : Int) == 0) = true := rfl
      rw [decide_eq_true rfl, Bool.true_and] at hc
      subst hc
      go_wp2_with fail
      go_ret
      exact ⟨rfl, Hend.out⟩
    · have hqb : (seq == 0) = false := by simpa using hq
      rw [decide_eq_false hq, Bool.false_and] at hc
      subst hc
      clear hq
      go_wp2_with fail
      go_ret
      exact ⟨rfl, Hend.out⟩
  · have hsb : (site == own) = false := by simpa using hso
    have hc := Hc.out
    rw [if_neg hso, Hgg.out] at hc
    clear Hc Hgg hso
    subst hc
    go_wp2_with fail
    go_ret
    exact ⟨rfl, Hend.out⟩

set_option maxHeartbeats 1000000 in
theorem may_calls (vt vd : Value) (t : TokD) (d : DrD) (w : World) (ht : IsTok w vt t) (hd : IsDr w vd d) (hs : SeenOk t.seen) (hdl : d.r.dep.length ≤ 1099511627776) :
    Calls Try.prog 14 #[vt, vd] w fun e w' => e = .returned (.bool (mayD t.own t.seen d)) ∧ RowKit.Below w.heap.size w w' := by
  rw [mayD_turn]
  have hl := hs.len
  have hB : ∀ o1 o2, RowKit.Below w.heap.size w ((w.alloc o1).alloc o2) := fun o1 o2 => ((RowKit.Below.refl _ w).alloc (Nat.le_refl _) o1).alloc (by simp) o2
  have C1 := hide (fun vr w' (hr : IsRec w' vr d.r) (hb : RowKit.Below w.heap.size w w') => inTurn_calls vt vr t d.r w' (ht.below hb) hr hs)
  obtain ⟨c, hc⟩ : ∃ c, turnD t.own t.seen d.r = c := ⟨_, rfl⟩
  rw [hc] at C1 ⊢
  clear hc
  obtain ⟨own, next, seen, late⟩ := t
  obtain ⟨ticket, ⟨site, seq, dep, key, val⟩⟩ := d
  obtain ⟨sa, sc, la, lc, rfl, hn, -⟩ := ht
  obtain ⟨a, cap, rfl, hm⟩ := hd
  dsimp only at *
  have C2 := hide (fun w' (hb : RowKit.Below w.heap.size w w') => covers_calls _ _ seen dep w' (hn.below hb) (hm.below hb) (by omega) hdl)
  have Hm := hide hm
  have HB := hide hB
  clear hn hs hm hB
  generalize everyB covB seen dep = g at *
  have T0 := World.alloc_heap_new w (.cells #[.int .i64 own, .int .i64 next, .slice sa seen.length sc, .slice la late.length lc] 26)
  have D0 := World.alloc_heap_new (w.alloc (.cells #[.int .i64 own, .int .i64 next, .slice sa seen.length sc, .slice la late.length lc] 26)) (.cells #[.int .i64 ticket, .int .i64 site, .int .i64 seq, .slice a dep.length cap, .string key, .string val] 41)
  rw [World.size_alloc] at D0
  have hB0 := HB.out (.cells #[.int .i64 own, .int .i64 next, .slice sa seen.length sc, .slice la late.length lc] 26) (.cells #[.int .i64 ticket, .int .i64 site, .int .i64 seq, .slice a dep.length cap, .string key, .string val] 41)
  have T1 := (Below.heap_alloc (w.alloc (.cells #[.int .i64 own, .int .i64 next, .slice sa seen.length sc, .slice la late.length lc] 26)) (.cells #[.int .i64 ticket, .int .i64 site, .int .i64 seq, .slice a dep.length cap, .string key, .string val] 41) w.heap.size (by simp)).trans T0
  obtain ⟨W0, hW0⟩ : ∃ W0, (w.alloc (.cells #[.int .i64 own, .int .i64 next, .slice sa seen.length sc, .slice la late.length lc] 26)).alloc (.cells #[.int .i64 ticket, .int .i64 site, .int .i64 seq, .slice a dep.length cap, .string key, .string val] 41) = W0 := ⟨_, rfl⟩
  rw [hW0] at hB0 D0 T1
  have HW := hide hW0
  have HT := hide T1
  have HD := hide D0
  have HB0 := hide hB0
  clear T0 D0 T1 hW0 hB0
  go_enter Try.func14, Try.ntmps14
  go_wp2_with fail
  rw [HW.out]
  refine (C1.out _ W0 ⟨a, cap, rfl, Hm.out.below HB0.out⟩ HB0.out).mono ?_
  rintro e w1 ⟨rfl, hb⟩
  have hb1 := hide (HB0.out.trans (hb.mono HB0.out.size))
  have t2 := cellsAt (keepB HT.out hb) 2
  have d3 := cellsAt (keepB HD.out hb) 3
  simp only [List.getElem?_toArray, List.getElem?_cons_zero, List.getElem?_cons_succ] at t2 d3
  clear hb
  cases c with
  | false =>
    go_wp2_with fail
    go_ret
    exact ⟨rfl, hb1.out⟩
  | true =>
    go_wp2_with fail
    refine (C2.out w1 hb1.out).mono ?_
    rintro e w2 ⟨rfl, rfl⟩
    go_wp2_with fail
    go_ret
    exact ⟨rfl, hb1.out⟩

/-- What Check tells. -/
def checkT (t : TokD) : Int := if t.own < 0 ∨ 8 ≤ t.own ∨ t.next < 0 then 1 else checkL t.seen 8
set_option maxHeartbeats 1000000 in
theorem tokCheck_calls (vt : Value) (t : TokD) (w : World) (ht : IsTok w vt t) (hs : t.seen.length ≤ 1099511627776) :
    Calls Try.prog 10 #[vt] w fun e w' => e = .returned (.int .i64 (checkT t)) ∧ RowKit.Below w.heap.size w w' := by
  obtain ⟨c, hc⟩ : ∃ c, checkT t = c := ⟨_, rfl⟩
  rw [hc]
  unfold checkT at hc
  have Hc := hide hc
  clear hc
  obtain ⟨own, next, seen, late⟩ := t
  obtain ⟨sa, sc, la, lc, rfl, hn, -⟩ := ht
  dsimp only at *
  have C := hide (fun w' (hb : RowKit.Below w.heap.size w w') => check_calls _ seen 8 w' (hn.below hb) hs)
  have Hend := hide ((RowKit.Below.refl _ w).alloc (Nat.le_refl _) (.cells #[.int .i64 own, .int .i64 next, .slice sa seen.length sc, .slice la late.length lc] 26))
  clear hn
  by_cases h1 : own < 0
  · have e1 := Hc.out
    rw [if_pos (by omega)] at e1
    subst e1
    clear C Hc
    go_enter Try.func10, Try.ntmps10
    go_wp2_with fail
    go_ret
    exact ⟨rfl, Hend.out⟩
  by_cases h2 : 8 ≤ own
  · have e1 := Hc.out
    rw [if_pos (by omega)] at e1
    subst e1
    clear C Hc
    go_enter Try.func10, Try.ntmps10
    go_wp2_with fail
    go_ret
    exact ⟨rfl, Hend.out⟩
  by_cases h3 : next < 0
  · have e1 := Hc.out
    rw [if_pos (by omega)] at e1
    subst e1
    clear C Hc
    go_enter Try.func10, Try.ntmps10
    go_wp2_with fail
    go_ret
    exact ⟨rfl, Hend.out⟩
  have e1 := Hc.out
  rw [if_neg (by omega)] at e1
  rw [e1] at C
  clear Hc
  go_enter Try.func10, Try.ntmps10
  go_wp2_with fail
  refine (C.out _ Hend.out).mono ?_
  rintro e w1 ⟨rfl, rfl⟩
  go_wp2_with fail
  go_ret
  exact ⟨rfl, Hend.out⟩

end Go.Proofs.Ytdkpbfigjdmfpaa

/- Blocks of four, six, seven cells: read, written whole. Own work; no statement. -/
set_option linter.unusedSimpArgs false
set_option linter.unusedVariables false
namespace Go.Proofs.Ytdkpbfigjdmfpaa
open Go.RowKit Go.Shelf

theorem cells2T {W : World} {b : Nat} {x0 x1 : Value} {t : TypeId} (h : W.heap[b]? = some (.cells #[x0, x1] t (0, 0))) :
    W.cell? ⟨b, 0, none⟩ = some x0 ∧ W.cell? ⟨b, 1, none⟩ = some x1 ∧ W.frozen? ⟨b, 0, none⟩ = false ∧ W.frozen? ⟨b, 1, none⟩ = false := by
  refine ⟨?_, ?_, frozenAt h 0, frozenAt h 1⟩
  · simpa using cellsAt h 0
  · simpa using cellsAt h 1
def put2T (W : World) (b : Nat) (v0 v1 : Value) : World := (W.setCell ⟨b, 0, none⟩ v0).setCell ⟨b, 1, none⟩ v1
theorem put2T_heap {W : World} {b : Nat} {x0 x1 : Value} {t : TypeId} {f : Nat × Nat} (h : W.heap[b]? = some (.cells #[x0, x1] t f)) (v0 v1 : Value) : (put2T W b v0 v1).heap[b]? = some (.cells #[v0, v1] t f) := by
  have := setAt (j := 1) (setAt (j := 0) (h) v0) v1
  simpa [put2T] using this
theorem put2T_below {B b : Nat} {w W : World} (h : RowKit.Below B w W) (hb : B ≤ b) (v0 v1 : Value) : RowKit.Below B w (put2T W b v0 v1) := ((h.setCell (p := ⟨b, 0, none⟩) hb v0).setCell (p := ⟨b, 1, none⟩) hb v1)
theorem put2T_other {b : Nat} {W : World} (k : Nat) (h : k ≠ b) (v0 v1 : Value) : (put2T W b v0 v1).heap[k]? = W.heap[k]? := by
  unfold put2T
  rw [Below.heap_setCell _ ⟨b, 1, none⟩ _ k h, Below.heap_setCell _ ⟨b, 0, none⟩ _ k h]
theorem put2T_touch {S : Nat → Prop} {b : Nat} (W : World) (hS : S b) (v0 v1 : Value) : Touch S W (put2T W b v0 v1) := ((Touch.refl S W).set ⟨b, 0, none⟩ v0 hS).set ⟨b, 1, none⟩ v1 hS

theorem cells4T {W : World} {b : Nat} {x0 x1 x2 x3 : Value} {t : TypeId} (h : W.heap[b]? = some (.cells #[x0, x1, x2, x3] t (0, 0))) :
    W.cell? ⟨b, 0, none⟩ = some x0 ∧ W.cell? ⟨b, 1, none⟩ = some x1 ∧ W.cell? ⟨b, 2, none⟩ = some x2 ∧ W.cell? ⟨b, 3, none⟩ = some x3 ∧ W.frozen? ⟨b, 0, none⟩ = false ∧ W.frozen? ⟨b, 1, none⟩ = false ∧ W.frozen? ⟨b, 2, none⟩ = false ∧ W.frozen? ⟨b, 3, none⟩ = false := by
  refine ⟨?_, ?_, ?_, ?_, frozenAt h 0, frozenAt h 1, frozenAt h 2, frozenAt h 3⟩
  · simpa using cellsAt h 0
  · simpa using cellsAt h 1
  · simpa using cellsAt h 2
  · simpa using cellsAt h 3
def put4T (W : World) (b : Nat) (v0 v1 v2 v3 : Value) : World := (((W.setCell ⟨b, 0, none⟩ v0).setCell ⟨b, 1, none⟩ v1).setCell ⟨b, 2, none⟩ v2).setCell ⟨b, 3, none⟩ v3
theorem put4T_heap {W : World} {b : Nat} {x0 x1 x2 x3 : Value} {t : TypeId} {f : Nat × Nat} (h : W.heap[b]? = some (.cells #[x0, x1, x2, x3] t f)) (v0 v1 v2 v3 : Value) : (put4T W b v0 v1 v2 v3).heap[b]? = some (.cells #[v0, v1, v2, v3] t f) := by
  have := setAt (j := 3) (setAt (j := 2) (setAt (j := 1) (setAt (j := 0) (h) v0) v1) v2) v3
  simpa [put4T] using this
theorem put4T_below {B b : Nat} {w W : World} (h : RowKit.Below B w W) (hb : B ≤ b) (v0 v1 v2 v3 : Value) : RowKit.Below B w (put4T W b v0 v1 v2 v3) := ((((h.setCell (p := ⟨b, 0, none⟩) hb v0).setCell (p := ⟨b, 1, none⟩) hb v1).setCell (p := ⟨b, 2, none⟩) hb v2).setCell (p := ⟨b, 3, none⟩) hb v3)
theorem put4T_other {b : Nat} {W : World} (k : Nat) (h : k ≠ b) (v0 v1 v2 v3 : Value) : (put4T W b v0 v1 v2 v3).heap[k]? = W.heap[k]? := by
  unfold put4T
  rw [Below.heap_setCell _ ⟨b, 3, none⟩ _ k h, Below.heap_setCell _ ⟨b, 2, none⟩ _ k h, Below.heap_setCell _ ⟨b, 1, none⟩ _ k h, Below.heap_setCell _ ⟨b, 0, none⟩ _ k h]
theorem put4T_touch {S : Nat → Prop} {b : Nat} (W : World) (hS : S b) (v0 v1 v2 v3 : Value) : Touch S W (put4T W b v0 v1 v2 v3) := ((((Touch.refl S W).set ⟨b, 0, none⟩ v0 hS).set ⟨b, 1, none⟩ v1 hS).set ⟨b, 2, none⟩ v2 hS).set ⟨b, 3, none⟩ v3 hS

theorem cells6T {W : World} {b : Nat} {x0 x1 x2 x3 x4 x5 : Value} {t : TypeId} (h : W.heap[b]? = some (.cells #[x0, x1, x2, x3, x4, x5] t (0, 0))) :
    W.cell? ⟨b, 0, none⟩ = some x0 ∧ W.cell? ⟨b, 1, none⟩ = some x1 ∧ W.cell? ⟨b, 2, none⟩ = some x2 ∧ W.cell? ⟨b, 3, none⟩ = some x3 ∧ W.cell? ⟨b, 4, none⟩ = some x4 ∧ W.cell? ⟨b, 5, none⟩ = some x5 ∧ W.frozen? ⟨b, 0, none⟩ = false ∧ W.frozen? ⟨b, 1, none⟩ = false ∧ W.frozen? ⟨b, 2, none⟩ = false ∧ W.frozen? ⟨b, 3, none⟩ = false ∧ W.frozen? ⟨b, 4, none⟩ = false ∧ W.frozen? ⟨b, 5, none⟩ = false := by
  refine ⟨?_, ?_, ?_, ?_, ?_, ?_, frozenAt h 0, frozenAt h 1, frozenAt h 2, frozenAt h 3, frozenAt h 4, frozenAt h 5⟩
  · simpa using cellsAt h 0
  · simpa using cellsAt h 1
  · simpa using cellsAt h 2
  · simpa using cellsAt h 3
  · simpa using cellsAt h 4
  · simpa using cellsAt h 5
def put6T (W : World) (b : Nat) (v0 v1 v2 v3 v4 v5 : Value) : World := (((((W.setCell ⟨b, 0, none⟩ v0).setCell ⟨b, 1, none⟩ v1).setCell ⟨b, 2, none⟩ v2).setCell ⟨b, 3, none⟩ v3).setCell ⟨b, 4, none⟩ v4).setCell ⟨b, 5, none⟩ v5
theorem put6T_heap {W : World} {b : Nat} {x0 x1 x2 x3 x4 x5 : Value} {t : TypeId} {f : Nat × Nat} (h : W.heap[b]? = some (.cells #[x0, x1, x2, x3, x4, x5] t f)) (v0 v1 v2 v3 v4 v5 : Value) : (put6T W b v0 v1 v2 v3 v4 v5).heap[b]? = some (.cells #[v0, v1, v2, v3, v4, v5] t f) := by
  have := setAt (j := 5) (setAt (j := 4) (setAt (j := 3) (setAt (j := 2) (setAt (j := 1) (setAt (j := 0) (h) v0) v1) v2) v3) v4) v5
  simpa [put6T] using this
theorem put6T_below {B b : Nat} {w W : World} (h : RowKit.Below B w W) (hb : B ≤ b) (v0 v1 v2 v3 v4 v5 : Value) : RowKit.Below B w (put6T W b v0 v1 v2 v3 v4 v5) := ((((((h.setCell (p := ⟨b, 0, none⟩) hb v0).setCell (p := ⟨b, 1, none⟩) hb v1).setCell (p := ⟨b, 2, none⟩) hb v2).setCell (p := ⟨b, 3, none⟩) hb v3).setCell (p := ⟨b, 4, none⟩) hb v4).setCell (p := ⟨b, 5, none⟩) hb v5)
theorem put6T_other {b : Nat} {W : World} (k : Nat) (h : k ≠ b) (v0 v1 v2 v3 v4 v5 : Value) : (put6T W b v0 v1 v2 v3 v4 v5).heap[k]? = W.heap[k]? := by
  unfold put6T
  rw [Below.heap_setCell _ ⟨b, 5, none⟩ _ k h, Below.heap_setCell _ ⟨b, 4, none⟩ _ k h, Below.heap_setCell _ ⟨b, 3, none⟩ _ k h, Below.heap_setCell _ ⟨b, 2, none⟩ _ k h, Below.heap_setCell _ ⟨b, 1, none⟩ _ k h, Below.heap_setCell _ ⟨b, 0, none⟩ _ k h]
theorem put6T_touch {S : Nat → Prop} {b : Nat} (W : World) (hS : S b) (v0 v1 v2 v3 v4 v5 : Value) : Touch S W (put6T W b v0 v1 v2 v3 v4 v5) := ((((((Touch.refl S W).set ⟨b, 0, none⟩ v0 hS).set ⟨b, 1, none⟩ v1 hS).set ⟨b, 2, none⟩ v2 hS).set ⟨b, 3, none⟩ v3 hS).set ⟨b, 4, none⟩ v4 hS).set ⟨b, 5, none⟩ v5 hS

theorem cells7T {W : World} {b : Nat} {x0 x1 x2 x3 x4 x5 x6 : Value} {t : TypeId} (h : W.heap[b]? = some (.cells #[x0, x1, x2, x3, x4, x5, x6] t (0, 0))) :
    W.cell? ⟨b, 0, none⟩ = some x0 ∧ W.cell? ⟨b, 1, none⟩ = some x1 ∧ W.cell? ⟨b, 2, none⟩ = some x2 ∧ W.cell? ⟨b, 3, none⟩ = some x3 ∧ W.cell? ⟨b, 4, none⟩ = some x4 ∧ W.cell? ⟨b, 5, none⟩ = some x5 ∧ W.cell? ⟨b, 6, none⟩ = some x6 ∧ W.frozen? ⟨b, 0, none⟩ = false ∧ W.frozen? ⟨b, 1, none⟩ = false ∧ W.frozen? ⟨b, 2, none⟩ = false ∧ W.frozen? ⟨b, 3, none⟩ = false ∧ W.frozen? ⟨b, 4, none⟩ = false ∧ W.frozen? ⟨b, 5, none⟩ = false ∧ W.frozen? ⟨b, 6, none⟩ = false := by
  refine ⟨?_, ?_, ?_, ?_, ?_, ?_, ?_, frozenAt h 0, frozenAt h 1, frozenAt h 2, frozenAt h 3, frozenAt h 4, frozenAt h 5, frozenAt h 6⟩
  · simpa using cellsAt h 0
  · simpa using cellsAt h 1
  · simpa using cellsAt h 2
  · simpa using cellsAt h 3
  · simpa using cellsAt h 4
  · simpa using cellsAt h 5
  · simpa using cellsAt h 6
def put7T (W : World) (b : Nat) (v0 v1 v2 v3 v4 v5 v6 : Value) : World := ((((((W.setCell ⟨b, 0, none⟩ v0).setCell ⟨b, 1, none⟩ v1).setCell ⟨b, 2, none⟩ v2).setCell ⟨b, 3, none⟩ v3).setCell ⟨b, 4, none⟩ v4).setCell ⟨b, 5, none⟩ v5).setCell ⟨b, 6, none⟩ v6
theorem put7T_heap {W : World} {b : Nat} {x0 x1 x2 x3 x4 x5 x6 : Value} {t : TypeId} {f : Nat × Nat} (h : W.heap[b]? = some (.cells #[x0, x1, x2, x3, x4, x5, x6] t f)) (v0 v1 v2 v3 v4 v5 v6 : Value) : (put7T W b v0 v1 v2 v3 v4 v5 v6).heap[b]? = some (.cells #[v0, v1, v2, v3, v4, v5, v6] t f) := by
  have := setAt (j := 6) (setAt (j := 5) (setAt (j := 4) (setAt (j := 3) (setAt (j := 2) (setAt (j := 1) (setAt (j := 0) (h) v0) v1) v2) v3) v4) v5) v6
  simpa [put7T] using this
theorem put7T_below {B b : Nat} {w W : World} (h : RowKit.Below B w W) (hb : B ≤ b) (v0 v1 v2 v3 v4 v5 v6 : Value) : RowKit.Below B w (put7T W b v0 v1 v2 v3 v4 v5 v6) := (((((((h.setCell (p := ⟨b, 0, none⟩) hb v0).setCell (p := ⟨b, 1, none⟩) hb v1).setCell (p := ⟨b, 2, none⟩) hb v2).setCell (p := ⟨b, 3, none⟩) hb v3).setCell (p := ⟨b, 4, none⟩) hb v4).setCell (p := ⟨b, 5, none⟩) hb v5).setCell (p := ⟨b, 6, none⟩) hb v6)
theorem put7T_other {b : Nat} {W : World} (k : Nat) (h : k ≠ b) (v0 v1 v2 v3 v4 v5 v6 : Value) : (put7T W b v0 v1 v2 v3 v4 v5 v6).heap[k]? = W.heap[k]? := by
  unfold put7T
  rw [Below.heap_setCell _ ⟨b, 6, none⟩ _ k h, Below.heap_setCell _ ⟨b, 5, none⟩ _ k h, Below.heap_setCell _ ⟨b, 4, none⟩ _ k h, Below.heap_setCell _ ⟨b, 3, none⟩ _ k h, Below.heap_setCell _ ⟨b, 2, none⟩ _ k h, Below.heap_setCell _ ⟨b, 1, none⟩ _ k h, Below.heap_setCell _ ⟨b, 0, none⟩ _ k h]
theorem put7T_touch {S : Nat → Prop} {b : Nat} (W : World) (hS : S b) (v0 v1 v2 v3 v4 v5 v6 : Value) : Touch S W (put7T W b v0 v1 v2 v3 v4 v5 v6) := (((((((Touch.refl S W).set ⟨b, 0, none⟩ v0 hS).set ⟨b, 1, none⟩ v1 hS).set ⟨b, 2, none⟩ v2 hS).set ⟨b, 3, none⟩ v3 hS).set ⟨b, 4, none⟩ v4 hS).set ⟨b, 5, none⟩ v5 hS).set ⟨b, 6, none⟩ v6 hS

theorem new1T (w : World) (c0 : Array Value) (t0 : TypeId) : ∃ W, (w.alloc (.cells c0 t0)) = W ∧ W.heap.size = w.heap.size + 1 ∧ RowKit.Below w.heap.size w W ∧ W.heap[w.heap.size]? = some (.cells c0 t0 (0, 0)) := by
  refine ⟨_, rfl, by simp, (RowKit.Below.refl _ w).alloc (by (try simp only [World.size_alloc]); omega) (.cells c0 t0), ?_⟩
  · have h := World.alloc_heap_new w (.cells c0 t0)
    exact h

theorem new2T (w : World) (c0 c1 : Array Value) (t0 t1 : TypeId) : ∃ W, ((w.alloc (.cells c0 t0)).alloc (.cells c1 t1)) = W ∧ W.heap.size = w.heap.size + 2 ∧ RowKit.Below w.heap.size w W ∧ W.heap[w.heap.size]? = some (.cells c0 t0 (0, 0)) ∧ W.heap[w.heap.size + 1]? = some (.cells c1 t1 (0, 0)) := by
  refine ⟨_, rfl, by simp, ((RowKit.Below.refl _ w).alloc (by (try simp only [World.size_alloc]); omega) (.cells c0 t0)).alloc (by (try simp only [World.size_alloc]); omega) (.cells c1 t1), ?_, ?_⟩
  · have h := World.alloc_heap_new w (.cells c0 t0)
    replace h := (Below.heap_alloc (w.alloc (.cells c0 t0)) (.cells c1 t1) _ (by (try simp only [World.size_alloc]); omega)).trans h
    exact h
  · have h := World.alloc_heap_new (w.alloc (.cells c0 t0)) (.cells c1 t1)
    simp only [World.size_alloc] at h
    exact h

theorem new3T (w : World) (c0 c1 c2 : Array Value) (t0 t1 t2 : TypeId) : ∃ W, (((w.alloc (.cells c0 t0)).alloc (.cells c1 t1)).alloc (.cells c2 t2)) = W ∧ W.heap.size = w.heap.size + 3 ∧ RowKit.Below w.heap.size w W ∧ W.heap[w.heap.size]? = some (.cells c0 t0 (0, 0)) ∧ W.heap[w.heap.size + 1]? = some (.cells c1 t1 (0, 0)) ∧ W.heap[w.heap.size + 2]? = some (.cells c2 t2 (0, 0)) := by
  refine ⟨_, rfl, by simp, (((RowKit.Below.refl _ w).alloc (by (try simp only [World.size_alloc]); omega) (.cells c0 t0)).alloc (by (try simp only [World.size_alloc]); omega) (.cells c1 t1)).alloc (by (try simp only [World.size_alloc]); omega) (.cells c2 t2), ?_, ?_, ?_⟩
  · have h := World.alloc_heap_new w (.cells c0 t0)
    replace h := (Below.heap_alloc (w.alloc (.cells c0 t0)) (.cells c1 t1) _ (by (try simp only [World.size_alloc]); omega)).trans h
    replace h := (Below.heap_alloc ((w.alloc (.cells c0 t0)).alloc (.cells c1 t1)) (.cells c2 t2) _ (by (try simp only [World.size_alloc]); omega)).trans h
    exact h
  · have h := World.alloc_heap_new (w.alloc (.cells c0 t0)) (.cells c1 t1)
    simp only [World.size_alloc] at h
    replace h := (Below.heap_alloc ((w.alloc (.cells c0 t0)).alloc (.cells c1 t1)) (.cells c2 t2) _ (by (try simp only [World.size_alloc]); omega)).trans h
    exact h
  · have h := World.alloc_heap_new ((w.alloc (.cells c0 t0)).alloc (.cells c1 t1)) (.cells c2 t2)
    simp only [World.size_alloc] at h
    exact h

theorem new4T (w : World) (c0 c1 c2 c3 : Array Value) (t0 t1 t2 t3 : TypeId) : ∃ W, ((((w.alloc (.cells c0 t0)).alloc (.cells c1 t1)).alloc (.cells c2 t2)).alloc (.cells c3 t3)) = W ∧ W.heap.size = w.heap.size + 4 ∧ RowKit.Below w.heap.size w W ∧ W.heap[w.heap.size]? = some (.cells c0 t0 (0, 0)) ∧ W.heap[w.heap.size + 1]? = some (.cells c1 t1 (0, 0)) ∧ W.heap[w.heap.size + 2]? = some (.cells c2 t2 (0, 0)) ∧ W.heap[w.heap.size + 3]? = some (.cells c3 t3 (0, 0)) := by
  refine ⟨_, rfl, by simp, ((((RowKit.Below.refl _ w).alloc (by (try simp only [World.size_alloc]); omega) (.cells c0 t0)).alloc (by (try simp only [World.size_alloc]); omega) (.cells c1 t1)).alloc (by (try simp only [World.size_alloc]); omega) (.cells c2 t2)).alloc (by (try simp only [World.size_alloc]); omega) (.cells c3 t3), ?_, ?_, ?_, ?_⟩
  · have h := World.alloc_heap_new w (.cells c0 t0)
    replace h := (Below.heap_alloc (w.alloc (.cells c0 t0)) (.cells c1 t1) _ (by (try simp only [World.size_alloc]); omega)).trans h
    replace h := (Below.heap_alloc ((w.alloc (.cells c0 t0)).alloc (.cells c1 t1)) (.cells c2 t2) _ (by (try simp only [World.size_alloc]); omega)).trans h
    replace h := (Below.heap_alloc (((w.alloc (.cells c0 t0)).alloc (.cells c1 t1)).alloc (.cells c2 t2)) (.cells c3 t3) _ (by (try simp only [World.size_alloc]); omega)).trans h
    exact h
  · have h := World.alloc_heap_new (w.alloc (.cells c0 t0)) (.cells c1 t1)
    simp only [World.size_alloc] at h
    replace h := (Below.heap_alloc ((w.alloc (.cells c0 t0)).alloc (.cells c1 t1)) (.cells c2 t2) _ (by (try simp only [World.size_alloc]); omega)).trans h
    replace h := (Below.heap_alloc (((w.alloc (.cells c0 t0)).alloc (.cells c1 t1)).alloc (.cells c2 t2)) (.cells c3 t3) _ (by (try simp only [World.size_alloc]); omega)).trans h
    exact h
  · have h := World.alloc_heap_new ((w.alloc (.cells c0 t0)).alloc (.cells c1 t1)) (.cells c2 t2)
    simp only [World.size_alloc] at h
    replace h := (Below.heap_alloc (((w.alloc (.cells c0 t0)).alloc (.cells c1 t1)).alloc (.cells c2 t2)) (.cells c3 t3) _ (by (try simp only [World.size_alloc]); omega)).trans h
    exact h
  · have h := World.alloc_heap_new (((w.alloc (.cells c0 t0)).alloc (.cells c1 t1)).alloc (.cells c2 t2)) (.cells c3 t3)
    simp only [World.size_alloc] at h
    exact h

end Go.Proofs.Ytdkpbfigjdmfpaa
