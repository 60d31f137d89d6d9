import Derived.Test.YtbeclgilglepeaaTInv
import Derived.OwnWalk
import Derived.Deep.AppendLies
import Derived.Deep.CutRange
namespace Go.Proofs.Ytbeclgilglepeaa
open Go.RowKit

theorem Try.infoInt : (Try.prog.info? 3).map (fun i => (i.zero, i.size, i.bytes)) = some (some (.int .i64 0), 1, 8) := by kernel_rfl

/-- The plan while it is made: k1, k2, k3 numbers lie in its three rows. -/
structure BI (w W : World) (L : Value) (k1 k2 k3 : Nat) (v1 v2 v3 : Value) : Prop where
  below : Below w.heap.size w W
  hp : w.heap.size < W.heap.size
  cL : W.cell? ⟨w.heap.size, 0, none⟩ = some L
  f1 : W.cell? ⟨w.heap.size, 1, none⟩ = some v1
  f2 : W.cell? ⟨w.heap.size, 2, none⟩ = some v2
  f3 : W.cell? ⟨w.heap.size, 3, none⟩ = some v3
  cN : W.cell? ⟨w.heap.size, 4, none⟩ = some (.int .i64 0)
  cS : W.cell? ⟨w.heap.size, 5, none⟩ = some (.string ⟨#[]⟩)
  fp : ∀ j, W.frozen? ⟨w.heap.size, j, none⟩ = false
  own1 : W.ownsRow (w.heap.size + 1) 3 1 v1 k1 (List.replicate k1 (.int .i64 0))
  own2 : W.ownsRow (w.heap.size + 1) 3 1 v2 k2 (List.replicate k2 (.int .i64 0))
  own3 : W.ownsRow (w.heap.size + 1) 3 1 v3 k3 (List.replicate k3 (.int .i64 (-1)))
  n12 : ∀ b, v1.ownBlock = some b → v2.ownBlock ≠ some b
  n13 : ∀ b, v1.ownBlock = some b → v3.ownBlock ≠ some b
  n23 : ∀ b, v2.ownBlock = some b → v3.ownBlock ≠ some b

/-- A cell of the plan's own block behind an append to a row. -/
theorem plan_far {w W W1 : World} {v : Value} {n : Nat} {xs : List Value} (hp : w.heap.size < W.heap.size) (ho : W.ownsRow (w.heap.size + 1) 3 1 v n xs) (o : Obj) (hg : (W.alloc o).grownBy W1 v.ownBlock) (j : Nat) :
    W1.cell? ⟨w.heap.size, j, none⟩ = W.cell? ⟨w.heap.size, j, none⟩ ∧ W1.frozen? ⟨w.heap.size, j, none⟩ = W.frozen? ⟨w.heap.size, j, none⟩ := by
  have hb := (Below.refl W.heap.size W).alloc (Nat.le_refl _) o
  have hne : some w.heap.size ≠ v.ownBlock := by
    intro e
    have := (ho.lt _ e.symm).1
    omega
  refine ⟨?_, ?_⟩
  · rw [hg.cell_far ⟨w.heap.size, j, none⟩ (by simp; omega) hne, hb.cell (p := ⟨w.heap.size, j, none⟩) hp]
  · rw [hg.frozen_far ⟨w.heap.size, j, none⟩ (by simp; omega) hne, hb.frozen (p := ⟨w.heap.size, j, none⟩) hp]

theorem rep_snoc (k : Nat) (v : Value) : List.replicate k v ++ [v] = List.replicate (k + 1) v := by
  rw [← List.replicate_succ']

theorem grow_size {W W1 : World} {o : Obj} {r : Option Nat} (hg : (W.alloc o).grownBy W1 r) : W.heap.size + 1 ≤ W1.heap.size := by
  have := hg.size; rw [World.size_alloc] at this; exact this

/-- What is appended to lies elsewhere than what is not. -/
theorem apart_new {W : World} {B n' g H : Nat} {v u : Value} {ys : List Value} (hu : W.ownsRow B 3 1 u n' ys) (hH : H = W.heap.size + 1) (hat : v.ownBlock = some g ∨ g = H)
    (hd : ∀ b, v.ownBlock = some b → u.ownBlock ≠ some b) : u.ownBlock ≠ some g := by
  rcases hat with h | h
  · exact hd g h
  · intro e
    have := (hu.lt g e).2
    omega

theorem kept_of {W W1 : World} {B n' : Nat} {v u : Value} {ys : List Value} {o : Obj} (hu : W.ownsRow B 3 1 u n' ys) (hg : (W.alloc o).grownBy W1 v.ownBlock) (hd : ∀ b, v.ownBlock = some b → u.ownBlock ≠ some b) :
    W1.ownsRow B 3 1 u n' ys := by
  refine (hu.alloc o).kept hg ?_
  cases e : u.ownBlock with
  | none => exact Or.inl rfl
  | some b => right; intro e2; exact hd b e2.symm e

theorem BI.app1 {w W W1 : World} {L : Value} {k1 k2 k3 : Nat} {v1 v2 v3 : Value} (h : BI w W L k1 k2 k3 v1 v2 v3) {o : Obj} {g cap : Nat} (hg : (W.alloc o).grownBy W1 v1.ownBlock) (hat : v1.ownBlock = some g ∨ g = W.heap.size + 1)
    (hown : W1.ownsRow (w.heap.size + 1) 3 1 (.slice (some ⟨g, 0, none⟩) (k1 + 1) cap) (k1 + 1) (List.replicate k1 (.int .i64 0) ++ [.int .i64 0])) :
    BI w (W1.setCell ⟨w.heap.size, 1, none⟩ (.slice (some ⟨g, 0, none⟩) (k1 + 1) cap)) L (k1 + 1) k2 k3 (.slice (some ⟨g, 0, none⟩) (k1 + 1) cap) v2 v3 := by
  have hz := grow_size hg
  have hp := h.hp
  have far := plan_far hp h.own1 o hg
  have a12 : v2.ownBlock ≠ some g := apart_new (v := v1) h.own2 rfl hat h.n12
  have a13 : v3.ownBlock ≠ some g := apart_new (v := v1) h.own3 rfl hat h.n13
  rw [rep_snoc] at hown
  refine ⟨(Below.grown (h.below.alloc h.below.size o) hg (by rw [World.size_alloc]; omega) (fun q hq => by have := (h.own1.lt q hq).1; omega)).setCell (Nat.le_refl _) _, by rw [size_setCell]; omega, ?_, ?_, ?_, ?_, ?_, ?_, ?_,
    ownsRow_setCell_below hown (Nat.lt_succ_self _) _, ownsRow_setCell_below (kept_of h.own2 hg h.n12) (Nat.lt_succ_self _) _, ownsRow_setCell_below (kept_of h.own3 hg h.n13) (Nat.lt_succ_self _) _, ?_, ?_, h.n23⟩
  · rw [cell_other _ _ _ _ _ _ (by omega), (far 0).1]; exact h.cL
  · exact World.cell?_setCell_same _ _ _ ((far 1).1.trans h.f1)
  · rw [cell_other _ _ _ _ _ _ (by omega), (far 2).1]; exact h.f2
  · rw [cell_other _ _ _ _ _ _ (by omega), (far 3).1]; exact h.f3
  · rw [cell_other _ _ _ _ _ _ (by omega), (far 4).1]; exact h.cN
  · rw [cell_other _ _ _ _ _ _ (by omega), (far 5).1]; exact h.cS
  · intro j; rw [frozen_setCell, (far j).2]; exact h.fp j
  · intro b hb; simp only [Value.ownBlock, Option.some.injEq] at hb; subst hb; exact a12
  · intro b hb; simp only [Value.ownBlock, Option.some.injEq] at hb; subst hb; exact a13

theorem BI.app2 {w W W1 : World} {L : Value} {k1 k2 k3 : Nat} {v1 v2 v3 : Value} (h : BI w W L k1 k2 k3 v1 v2 v3) {o : Obj} {g cap : Nat} (hg : (W.alloc o).grownBy W1 v2.ownBlock) (hat : v2.ownBlock = some g ∨ g = W.heap.size + 1)
    (hown : W1.ownsRow (w.heap.size + 1) 3 1 (.slice (some ⟨g, 0, none⟩) (k2 + 1) cap) (k2 + 1) (List.replicate k2 (.int .i64 0) ++ [.int .i64 0])) :
    BI w (W1.setCell ⟨w.heap.size, 2, none⟩ (.slice (some ⟨g, 0, none⟩) (k2 + 1) cap)) L k1 (k2 + 1) k3 v1 (.slice (some ⟨g, 0, none⟩) (k2 + 1) cap) v3 := by
  have hz := grow_size hg
  have hp := h.hp
  have far := plan_far hp h.own2 o hg
  have n21 : ∀ b, v2.ownBlock = some b → v1.ownBlock ≠ some b := fun b hb e => h.n12 b e hb
  have a21 : v1.ownBlock ≠ some g := apart_new (v := v2) h.own1 rfl hat n21
  have a23 : v3.ownBlock ≠ some g := apart_new (v := v2) h.own3 rfl hat h.n23
  rw [rep_snoc] at hown
  refine ⟨(Below.grown (h.below.alloc h.below.size o) hg (by rw [World.size_alloc]; omega) (fun q hq => by have := (h.own2.lt q hq).1; omega)).setCell (Nat.le_refl _) _, by rw [size_setCell]; omega, ?_, ?_, ?_, ?_, ?_, ?_, ?_,
    ownsRow_setCell_below (kept_of h.own1 hg n21) (Nat.lt_succ_self _) _, ownsRow_setCell_below hown (Nat.lt_succ_self _) _, ownsRow_setCell_below (kept_of h.own3 hg h.n23) (Nat.lt_succ_self _) _, ?_, h.n13, ?_⟩
  · rw [cell_other _ _ _ _ _ _ (by omega), (far 0).1]; exact h.cL
  · rw [cell_other _ _ _ _ _ _ (by omega), (far 1).1]; exact h.f1
  · exact World.cell?_setCell_same _ _ _ ((far 2).1.trans h.f2)
  · rw [cell_other _ _ _ _ _ _ (by omega), (far 3).1]; exact h.f3
  · rw [cell_other _ _ _ _ _ _ (by omega), (far 4).1]; exact h.cN
  · rw [cell_other _ _ _ _ _ _ (by omega), (far 5).1]; exact h.cS
  · intro j; rw [frozen_setCell, (far j).2]; exact h.fp j
  · intro b hb e; simp only [Value.ownBlock, Option.some.injEq] at e; subst e; exact a21 hb
  · intro b hb; simp only [Value.ownBlock, Option.some.injEq] at hb; subst hb; exact a23

theorem BI.app3 {w W W1 : World} {L : Value} {k1 k2 k3 : Nat} {v1 v2 v3 : Value} (h : BI w W L k1 k2 k3 v1 v2 v3) {o : Obj} {g cap : Nat} (hg : (W.alloc o).grownBy W1 v3.ownBlock) (hat : v3.ownBlock = some g ∨ g = W.heap.size + 1)
    (hown : W1.ownsRow (w.heap.size + 1) 3 1 (.slice (some ⟨g, 0, none⟩) (k3 + 1) cap) (k3 + 1) (List.replicate k3 (.int .i64 (-1)) ++ [.int .i64 (-1)])) :
    BI w (W1.setCell ⟨w.heap.size, 3, none⟩ (.slice (some ⟨g, 0, none⟩) (k3 + 1) cap)) L k1 k2 (k3 + 1) v1 v2 (.slice (some ⟨g, 0, none⟩) (k3 + 1) cap) := by
  have hz := grow_size hg
  have hp := h.hp
  have far := plan_far hp h.own3 o hg
  have n31 : ∀ b, v3.ownBlock = some b → v1.ownBlock ≠ some b := fun b hb e => h.n13 b e hb
  have n32 : ∀ b, v3.ownBlock = some b → v2.ownBlock ≠ some b := fun b hb e => h.n23 b e hb
  have a31 : v1.ownBlock ≠ some g := apart_new (v := v3) h.own1 rfl hat n31
  have a32 : v2.ownBlock ≠ some g := apart_new (v := v3) h.own2 rfl hat n32
  rw [rep_snoc] at hown
  refine ⟨(Below.grown (h.below.alloc h.below.size o) hg (by rw [World.size_alloc]; omega) (fun q hq => by have := (h.own3.lt q hq).1; omega)).setCell (Nat.le_refl _) _, by rw [size_setCell]; omega, ?_, ?_, ?_, ?_, ?_, ?_, ?_,
    ownsRow_setCell_below (kept_of h.own1 hg n31) (Nat.lt_succ_self _) _, ownsRow_setCell_below (kept_of h.own2 hg n32) (Nat.lt_succ_self _) _, ownsRow_setCell_below hown (Nat.lt_succ_self _) _, h.n12, ?_, ?_⟩
  · rw [cell_other _ _ _ _ _ _ (by omega), (far 0).1]; exact h.cL
  · rw [cell_other _ _ _ _ _ _ (by omega), (far 1).1]; exact h.f1
  · rw [cell_other _ _ _ _ _ _ (by omega), (far 2).1]; exact h.f2
  · exact World.cell?_setCell_same _ _ _ ((far 3).1.trans h.f3)
  · rw [cell_other _ _ _ _ _ _ (by omega), (far 4).1]; exact h.cN
  · rw [cell_other _ _ _ _ _ _ (by omega), (far 5).1]; exact h.cS
  · intro j; rw [frozen_setCell, (far j).2]; exact h.fp j
  · intro b hb e; simp only [Value.ownBlock, Option.some.injEq] at e; subst e; exact a31 hb
  · intro b hb e; simp only [Value.ownBlock, Option.some.injEq] at e; subst e; exact a32 hb

/-- The plan that is made: nothing has come. -/
theorem BI.done {w W : World} {ao : Option Addr} {n cap : Nat} {l : List Tk} {v1 v2 v3 : Value} (h : BI w W (.slice ao n cap) n n n v1 v2 v3) (hn : n = l.length) (hpos : 0 < n) (hH : HoldsA w ao l) :
    ∃ g1 g2 g3 c1 c2 c3, PI w W w.heap.size g1 g2 g3 ao cap c1 c2 c3 l st0 := by
  obtain ⟨g1, c1, rfl, hb1, hg1⟩ := h.own1.form hpos
  obtain ⟨g2, c2, rfl, hb2, hg2⟩ := h.own2.form hpos
  obtain ⟨g3, c3, rfl, hb3, hg3⟩ := h.own3.form hpos
  have n12 : g1 ≠ g2 := fun e => h.n12 g1 rfl (by rw [e]; rfl)
  have n13 : g1 ≠ g3 := fun e => h.n13 g1 rfl (by rw [e]; rfl)
  have n23 : g2 ≠ g3 := fun e => h.n23 g2 rfl (by rw [e]; rfl)
  subst hn
  refine ⟨g1, g2, g3, c1, c2, c3, h.below, hH, ⟨Nat.le_refl _, h.hp⟩, ⟨by omega, hg1⟩, ⟨by omega, hg2⟩, ⟨by omega, hg3⟩, ⟨by omega, by omega, by omega, n12, n13, n23⟩, h.cL, h.f1, h.f2, h.f3, h.cN, h.cS, ?_, ?_, ?_, h.fp, ?_, ?_, ?_⟩
  · intro i hi
    rw [h.own1.cellAt i (by omega)]
    simp [st0, hi]
  · intro i hi
    rw [h.own2.cellAt i (by omega)]
    simp [st0, hi]
  · intro i hi
    rw [h.own3.cellAt i (by omega)]
    simp [st0, hi]
  · exact h.own1.frozenAt
  · exact h.own2.frozenAt
  · exact h.own3.frozenAt

end Go.Proofs.Ytbeclgilglepeaa
