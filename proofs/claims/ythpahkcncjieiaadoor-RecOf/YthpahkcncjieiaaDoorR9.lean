/- rec's Of: the records of a site, with their places. Own work; no statement. -/
import Derived.Test.YthpahkcncjieiaaDoorR8
import Derived.Outline
set_option linter.unusedSimpArgs false
set_option linter.unusedVariables false
namespace Go.Proofs.YthpahkcncjieiaaDoor
open Go.RowKit Go.Sort

/-- A box that holds a row of placed records, each with numbers of its own. -/
def IsOf (w : World) (B : Nat) (v : Value) (n₁ : Nat) (pl : List Pl) : Prop :=
  Boxed w B 48 v ∧ w.ownsRow n₁ 51 6 v pl.length (pl.flatMap Pl.cells) ∧ ∀ p ∈ pl, w.ownsRow n₁ 3 1 p.vd p.r.dep.length (p.r.dep.map (Value.int .i64))

theorem IsOf.below {w w' : World} {B n₁ : Nat} {v : Value} {pl : List Pl} (h : IsOf w B v n₁ pl) (hb : Below w.heap.size w w') : IsOf w' B v n₁ pl :=
  ⟨boxed_of_heap h.1 (hb.block B h.1.lt), own_below h.2.1 hb, fun p hp => own_below (h.2.2 p hp) hb⟩

theorem placedTo_skip {l : List RecD} {site : Int} {k : Nat} (hk : k < l.length) (h : ¬ l[k].site = site) : placedTo l site (k + 1) = placedTo l site k := by
  simp only [placedTo, List.getElem?_eq_getElem hk, if_neg h, List.append_nil]
theorem placedTo_take {l : List RecD} {site : Int} {k : Nat} (hk : k < l.length) (h : l[k].site = site) : placedTo l site (k + 1) = placedTo l site k ++ [((k : Int), l[k])] := by
  simp only [placedTo, List.getElem?_eq_getElem hk, if_pos h]
theorem placedTo_length (l : List RecD) (site : Int) : ∀ k, (placedTo l site k).length ≤ k
  | 0 => by simp [placedTo]
  | k + 1 => by
    have := placedTo_length l site k
    simp only [placedTo, List.length_append]
    split
    · split <;> simp <;> omega
    · simp; omega

theorem cells_new {W : World} {c : Array Value} {e : TypeId} {g : Nat} (h : g = W.heap.size) : ∀ j u, c.toList[j]? = some u → (W.alloc (.cells c e)).cell? ((⟨g, 0, none⟩ : Addr).add j) = some u := by
  subst h
  intro j u hj
  rw [Addr.add_lit, Nat.zero_add, World.cell?_alloc_at _ _ _ _ rfl]
  simpa using hj

theorem six_one {p : Pl} {a : Option Addr} {n c : Nat} (h : p.vd = .slice a n c) : ∀ u ∈ p.cells, u.oneCell' = true := by
  intro u hu
  simp only [Pl.cells, h, List.mem_cons, List.not_mem_nil, or_false] at hu
  rcases hu with rfl | rfl | rfl | rfl | rfl | rfl <;> rfl

/-- One record more, by way of the box. -/
theorem of_step {w w' w2 : World} {B : Nat} {vr v1 : Value} {pl : List Pl} {p : Pl} {o : Obj} (hof : IsOf w' B vr (B + 1) pl) (hdep : w'.ownsRow (B + 1) 3 1 p.vd p.r.dep.length (p.r.dep.map (Value.int .i64)))
    (hown1 : w2.ownsRow (B + 1) 51 6 v1 (pl.length + 1) (pl.flatMap Pl.cells ++ p.cells)) (hgrow1 : (w'.alloc o).grownBy w2 vr.ownBlock) (hB : Below B w w') :
    Boxed w2 B 48 vr ∧ IsOf (w2.setCell ⟨B, 0, none⟩ v1) B v1 (B + 1) (pl ++ [p]) ∧ Below B w (w2.setCell ⟨B, 0, none⟩ v1) := by
  have hlt := hof.1.lt
  have hne : some B ≠ vr.ownBlock := fun e => by have := (hof.2.1.lt B e.symm).1; omega
  have hbx : Boxed w2 B 48 vr := (hof.1.alloc o).kept hgrow1 hne
  have keep : ∀ {v n xs}, w'.ownsRow (B + 1) 3 1 v n xs → (w2.setCell ⟨B, 0, none⟩ v1).ownsRow (B + 1) 3 1 v n xs := fun {v n xs} h =>
    ownsRow_of_heap h fun k hk => app_other hgrow1 k (h.lt k hk).2 (fun e => rows_apart (by decide) h hof.2.1 k hk e.symm) (by have := (h.lt k hk).1; omega)
  refine ⟨hbx, ⟨hbx.set v1, ?_, fun q hq => ?_⟩, ?_⟩
  · have := ownsRow_of_heap hown1 (W' := w2.setCell ⟨B, 0, none⟩ v1) (fun k hk => Below.heap_setCell _ _ _ _ (fun e' => by have := (hown1.lt k hk).1; have e2 : k = B := e'; omega))
    rw [List.flatMap_append, List.length_append]
    simpa using this
  · rcases List.mem_append.1 hq with hq | hq
    · exact keep (hof.2.2 q hq)
    · rw [List.mem_singleton.1 hq]; exact keep hdep
  · exact ((hB.alloc (by omega) o).grown hgrow1 (by simp; omega) (fun j ej => by have := (hof.2.1.lt j ej).1; omega)).setCell (p := ⟨B, 0, none⟩) (Nat.le_refl _) v1

set_option maxRecDepth 100000 in
set_option maxHeartbeats 4000000 in
theorem of_calls (v : Value) (l : List RecD) (site : Int) (w : World) (hv : IsRecs w v l) (hl : l.length ≤ 1048576) (hd : ∀ r ∈ l, r.dep.length ≤ 17592186044416) :
    Calls Tryd.prog 6 #[v, .int .i64 site] w fun e w' => ∃ v' pl, e = .returned (.func (.func 17) #[] #[.pointer (some ⟨w.heap.size, 0, none⟩)]) ∧ IsOf w' w.heap.size v' (w.heap.size + 1) pl ∧ pl.map (fun p => (p.i, p.r)) = placedTo l site l.length ∧ Below w.heap.size w w' := by
  obtain ⟨i0, hi, hz0, hz1, hz2⟩ := info_parts Tryd.info51
  have hmf : ∀ (fn : Fn) (first cap : Array Value) (w : World), (Instr.makeFunc fn first cap).run Tryd.prog w = .ok (.func fn first cap) w := fun _ _ _ _ => rfl
  obtain ⟨a, cap, rfl, hrec⟩ := hv
  have Hrec := hide hrec
  have Hd := hide hd
  clear hrec hd
  have hB0 := box_below w (.cells #[.slice none 0 0] 48)
  go_enter Tryd.func6, Tryd.ntmps6
  go_wp2
  go_loopw [10] (fun i wr => ∃ (k : Nat) (pl : List Pl) (v : Value), i = .int .i64 (k : Int) ∧ k ≤ l.length ∧ pl.map (fun p => (p.i, p.r)) = placedTo l site k ∧ IsOf wr w.heap.size v (w.heap.size + 1) pl ∧ Below w.heap.size w wr) (fun i _ => l.length - (intOf i).toNat)
  case atStart => exact ⟨0, [], _, rfl, Nat.zero_le _, rfl, ⟨Boxed.new w _ _, World.ownsRow_nil _ _ _ _, by simp⟩, hB0⟩
  case round =>
    clear hB0
    obtain ⟨k, pl, vr, rfl, hkn, hpl, hof, hB⟩ := hrel
    by_cases hk : k < l.length
    · have hlt : (k : Int) < (l.length : Int) := by omega
      obtain ⟨b, off, rfl, hat⟩ := Hrec.out k hk
      have hat1 := hat.below hB
      have hdl := Hd.out l[k] (List.getElem_mem hk)
      have hskip := hide (@placedTo_skip l site k hk)
      have htake := hide (@placedTo_take l site k hk)
      obtain ⟨r, hr⟩ : ∃ r, l[k] = r := ⟨_, rfl⟩
      rw [hr] at hat1 hdl hskip htake
      obtain ⟨rsite, rseq, rdep, rkey, rval⟩ := r
      obtain ⟨ra, rcap, c0, c1, c2, c3, c4, hnum⟩ := hat1
      dsimp only at *
      have hblt : b < wr.heap.size := World.block_lt_of_cell? wr _ c0
      clear hr hat
      have HOF := hide hof
      have Hpl := hide hpl
      have Hnum := hide hnum
      have hbc := hof.1.cell
      have hbf := hof.1.frozen
      have hblt2 := hof.1.lt
      clear hof hpl hnum
      by_cases hs : rsite = site
      · have hs' : (rsite == site) = true := by simp [hs]
        replace hs := hide hs
        go_wp2
        have HB1 : Below wr.heap.size wr (wr.alloc (.cells #[.int .i64 rsite, .int .i64 rseq, .slice ra rdep.length rcap, .string rkey, .string rval] 30)).drew := (box_below wr _).drew
        have hof1 := HOF.out.below HB1
        have C := hide (copied_calls (.agg #[.int .i64 rsite, .int .i64 rseq, .slice ra rdep.length rcap, .string rkey, .string rval]) ⟨rsite, rseq, rdep, rkey, rval⟩ (wr.alloc (.cells #[.int .i64 rsite, .int .i64 rseq, .slice ra rdep.length rcap, .string rkey, .string rval] 30)).drew ⟨ra, rcap, rfl, Hnum.out.below HB1⟩ hdl)
        have hplen := Hpl.out
        replace hplen := congrArg List.length hplen
        rw [List.length_map] at hplen
        have hpl2 := placedTo_length l site k
        have hpl3 : pl.length ≤ k := by omega
        clear hplen hpl2
        have hBd : Below w.heap.size w (wr.alloc (.cells #[.int .i64 rsite, .int .i64 rseq, .slice ra rdep.length rcap, .string rkey, .string rval] 30)).drew := hB.trans (HB1.mono hB.size)
        have hsz1 : w.heap.size + 1 ≤ (wr.alloc (.cells #[.int .i64 rsite, .int .i64 rseq, .slice ra rdep.length rcap, .string rkey, .string rval] 30)).drew.heap.size := by have := HB1.size; omega
        have Hof1 := hide hof1
        clear hof1 HB1
        go_region_law (first | (refine step_append rfl (.tmp 19) (.tmp 24) 48 rfl (w.heap.size + 1) 51 i0 _ 6 80 Tryd.underlying48 hi hz0 hz1 hz2 rfl (by decide) vr pl.length (pl.flatMap Pl.cells) rfl (World.ownsRow.alloc Hof2.out.2.1 _) ⟨_, 0, none⟩ 1 1 (Pl.cells ⟨(k : Int), ⟨rsite, rseq, rdep, rkey, rval⟩, .slice va rdep.length vcap⟩) rfl rfl (cells_new rfl) (six_one rfl) (by unfold maxLen; omega) (by omega) (by simp; omega) ?_; intro v1 w2 hown1 hgrow1; obtain ⟨g1, cap1, rfl⟩ := ownsRow_succ hown1; obtain ⟨bx2, hof3, hB3⟩ := of_step Hof2.out hvd hown1 hgrow1 hB2; have q1 := bx2.cell; have q2 := bx2.frozen) | (refine step_call rfl 16 #[.agg #[.int .i64 rsite, .int .i64 rseq, .slice ra rdep.length rcap, .string rkey, .string rval]] ?_ C.out ?_; (· go_simp); rintro e w' ⟨v', rfl, hrecw, hb⟩; obtain ⟨vd, rfl, hvd⟩ := hrecw; obtain ⟨va, vcap, rfl⟩ := ownsRow_slice hvd; replace hvd := ownsRow_low hvd hsz1; have Hof2 := hide (Hof1.out.below hb); have hB2 := hBd.trans (hb.mono hBd.size); have hbc2 := Hof2.out.1.cell; have hbc3 := fun o => Lib.cell?_alloc_some o hbc2; have hs2 := hb.size; refine ⟨_, rfl, ?_⟩))
        all_goals
          go_wp2
          refine ⟨⟨k + 1, pl ++ [⟨(k : Int), ⟨rsite, rseq, rdep, rkey, rval⟩, .slice va rdep.length vcap⟩], _, by go_num, by omega, ?_, hof3, hB3⟩, by simp [intOf]; omega⟩
          rw [htake.out hs.out, List.map_append, Hpl.out]
          rfl
      · have hs' : (rsite == site) = false := by simp [hs]
        replace hs := hide hs
        go_wp2
        refine ⟨⟨k + 1, pl, vr, by go_num, by omega, ?_, HOF.out.below (box_below wr _), hB.alloc hB.size _⟩, by simp [intOf]; omega⟩
        rw [hskip.out hs.out]
        exact Hpl.out
    · go_wp2
      go_ret
      have e : k = l.length := by omega
      subst e
      exact ⟨_, pl, rfl, hof, hpl, hB⟩

end Go.Proofs.YthpahkcncjieiaaDoor
