import Derived.Test.YtbeclgilglepeaaRTest
import Derived.Test.YtbeclgilglepeaaMath5
namespace Go.Proofs.Ytbeclgilglepeaa
open Go.RowKit

/-- The plan in memory: in block p; what is left, the deadlines, the last comings in g1, g2, g3; all made behind w0. -/
structure PI (w0 w : World) (p g1 g2 g3 : Nat) (ao : Option Addr) (cap0 c1 c2 c3 : Nat) (l : List Tk) (st : St) : Prop where
  below : Below w0.heap.size w0 w
  holds : HoldsA w0 ao l
  hp : w0.heap.size ≤ p ∧ p < w.heap.size
  h1 : w0.heap.size ≤ g1 ∧ g1 < w.heap.size
  h2 : w0.heap.size ≤ g2 ∧ g2 < w.heap.size
  h3 : w0.heap.size ≤ g3 ∧ g3 < w.heap.size
  ne : p ≠ g1 ∧ p ≠ g2 ∧ p ≠ g3 ∧ g1 ≠ g2 ∧ g1 ≠ g3 ∧ g2 ≠ g3
  cL : w.cell? ⟨p, 0, none⟩ = some (.slice ao l.length cap0)
  f1 : w.cell? ⟨p, 1, none⟩ = some (.slice (some ⟨g1, 0, none⟩) l.length c1)
  f2 : w.cell? ⟨p, 2, none⟩ = some (.slice (some ⟨g2, 0, none⟩) l.length c2)
  f3 : w.cell? ⟨p, 3, none⟩ = some (.slice (some ⟨g3, 0, none⟩) l.length c3)
  cN : w.cell? ⟨p, 4, none⟩ = some (.int .i64 st.now)
  cS : w.cell? ⟨p, 5, none⟩ = some (.string ⟨st.out.toArray⟩)
  left : ∀ i, i < l.length → w.cell? ⟨g1, i, none⟩ = some (.int .i64 (st.left i))
  due : ∀ i, i < l.length → w.cell? ⟨g2, i, none⟩ = some (.int .i64 (st.due i))
  last : ∀ i, i < l.length → w.cell? ⟨g3, i, none⟩ = some (.int .i64 (st.last i))
  fp : ∀ j, w.frozen? ⟨p, j, none⟩ = false
  z1 : ∀ j, w.frozen? ⟨g1, j, none⟩ = false
  z2 : ∀ j, w.frozen? ⟨g2, j, none⟩ = false
  z3 : ∀ j, w.frozen? ⟨g3, j, none⟩ = false

variable {w0 w : World} {p g1 g2 g3 : Nat} {ao : Option Addr} {cap0 c1 c2 c3 : Nat} {l : List Tk} {st : St}

theorem cell_other (w : World) (b o b' o' : Nat) (v : Value) (h : ¬ (b = b' ∧ o = o')) : (w.setCell ⟨b, o, none⟩ v).cell? ⟨b', o', none⟩ = w.cell? ⟨b', o', none⟩ := by
  refine World.cell?_setCell_other _ _ _ _ (fun e => h ?_)
  simp only [Addr.mk.injEq] at e
  exact ⟨e.1, e.2.1⟩

theorem PI.alloc (h : PI w0 w p g1 g2 g3 ao cap0 c1 c2 c3 l st) (o : Obj) : PI w0 (w.alloc o) p g1 g2 g3 ao cap0 c1 c2 c3 l st := by
  have hb := (Below.refl w.heap.size w).alloc (Nat.le_refl _) o
  have cc : ∀ b o', b < w.heap.size → (w.alloc o).cell? ⟨b, o', none⟩ = w.cell? ⟨b, o', none⟩ := fun b o' hlt => hb.cell (p := ⟨b, o', none⟩) hlt
  have ff : ∀ b o', b < w.heap.size → (w.alloc o).frozen? ⟨b, o', none⟩ = w.frozen? ⟨b, o', none⟩ := fun b o' hlt => hb.frozen (p := ⟨b, o', none⟩) hlt
  have hz : (w.alloc o).heap.size = w.heap.size + 1 := World.size_alloc _ _
  have a := h.hp; have b1 := h.h1; have b2 := h.h2; have b3 := h.h3
  refine ⟨h.below.alloc h.below.size o, h.holds, by omega, by omega, by omega, by omega, h.ne, ?_, ?_, ?_, ?_, ?_, ?_, ?_, ?_, ?_, ?_, ?_, ?_, ?_⟩
  · rw [cc _ _ a.2]; exact h.cL
  · rw [cc _ _ a.2]; exact h.f1
  · rw [cc _ _ a.2]; exact h.f2
  · rw [cc _ _ a.2]; exact h.f3
  · rw [cc _ _ a.2]; exact h.cN
  · rw [cc _ _ a.2]; exact h.cS
  · intro i hi; rw [cc _ _ b1.2]; exact h.left i hi
  · intro i hi; rw [cc _ _ b2.2]; exact h.due i hi
  · intro i hi; rw [cc _ _ b3.2]; exact h.last i hi
  · intro j; rw [ff _ _ a.2]; exact h.fp j
  · intro j; rw [ff _ _ b1.2]; exact h.z1 j
  · intro j; rw [ff _ _ b2.2]; exact h.z2 j
  · intro j; rw [ff _ _ b3.2]; exact h.z3 j

theorem PI.drewN (h : PI w0 w p g1 g2 g3 ao cap0 c1 c2 c3 l st) (q : Nat) : PI w0 (w.drewN q) p g1 g2 g3 ao cap0 c1 c2 c3 l st :=
  ⟨belN h.below q, h.holds, h.hp, h.h1, h.h2, h.h3, h.ne, h.cL, h.f1, h.f2, h.f3, h.cN, h.cS, h.left, h.due, h.last, h.fp, h.z1, h.z2, h.z3⟩
theorem PI.drew (h : PI w0 w p g1 g2 g3 ao cap0 c1 c2 c3 l st) : PI w0 w.drew p g1 g2 g3 ao cap0 c1 c2 c3 l st := h.drewN 1

theorem size_setCell (w : World) (a : Addr) (v : Value) : (w.setCell a v).heap.size = w.heap.size := by simp [World.setCell]
theorem frozen_setCell (w : World) (a b : Addr) (v : Value) : (w.setCell a v).frozen? b = w.frozen? b := by simp

theorem PI.setOut (h : PI w0 w p g1 g2 g3 ao cap0 c1 c2 c3 l st) (s : List UInt8) : PI w0 (w.setCell ⟨p, 5, none⟩ (.string ⟨s.toArray⟩)) p g1 g2 g3 ao cap0 c1 c2 c3 l { st with out := s } := by
  have a := h.hp; have b1 := h.h1; have b2 := h.h2; have b3 := h.h3; have n := h.ne
  refine ⟨h.below.setCell a.1 _, h.holds, by rw [size_setCell]; exact a, by rw [size_setCell]; exact b1, by rw [size_setCell]; exact b2, by rw [size_setCell]; exact b3, n, ?_, ?_, ?_, ?_, ?_, ?_, ?_, ?_, ?_, ?_, ?_, ?_, ?_⟩
  · rw [cell_other _ _ _ _ _ _ (by omega)]; exact h.cL
  · rw [cell_other _ _ _ _ _ _ (by omega)]; exact h.f1
  · rw [cell_other _ _ _ _ _ _ (by omega)]; exact h.f2
  · rw [cell_other _ _ _ _ _ _ (by omega)]; exact h.f3
  · rw [cell_other _ _ _ _ _ _ (by omega)]; exact h.cN
  · exact World.cell?_setCell_same _ _ _ h.cS
  · intro i hi; rw [cell_other _ _ _ _ _ _ (by omega)]; exact h.left i hi
  · intro i hi; rw [cell_other _ _ _ _ _ _ (by omega)]; exact h.due i hi
  · intro i hi; rw [cell_other _ _ _ _ _ _ (by omega)]; exact h.last i hi
  · intro j; rw [frozen_setCell]; exact h.fp j
  · intro j; rw [frozen_setCell]; exact h.z1 j
  · intro j; rw [frozen_setCell]; exact h.z2 j
  · intro j; rw [frozen_setCell]; exact h.z3 j

theorem PI.setNow (h : PI w0 w p g1 g2 g3 ao cap0 c1 c2 c3 l st) (m : Nat) : PI w0 (w.setCell ⟨p, 4, none⟩ (.int .i64 m)) p g1 g2 g3 ao cap0 c1 c2 c3 l { st with now := m } := by
  have a := h.hp; have b1 := h.h1; have b2 := h.h2; have b3 := h.h3; have n := h.ne
  refine ⟨h.below.setCell a.1 _, h.holds, by rw [size_setCell]; exact a, by rw [size_setCell]; exact b1, by rw [size_setCell]; exact b2, by rw [size_setCell]; exact b3, n, ?_, ?_, ?_, ?_, ?_, ?_, ?_, ?_, ?_, ?_, ?_, ?_, ?_⟩
  · rw [cell_other _ _ _ _ _ _ (by omega)]; exact h.cL
  · rw [cell_other _ _ _ _ _ _ (by omega)]; exact h.f1
  · rw [cell_other _ _ _ _ _ _ (by omega)]; exact h.f2
  · rw [cell_other _ _ _ _ _ _ (by omega)]; exact h.f3
  · exact World.cell?_setCell_same _ _ _ h.cN
  · rw [cell_other _ _ _ _ _ _ (by omega)]; exact h.cS
  · intro i hi; rw [cell_other _ _ _ _ _ _ (by omega)]; exact h.left i hi
  · intro i hi; rw [cell_other _ _ _ _ _ _ (by omega)]; exact h.due i hi
  · intro i hi; rw [cell_other _ _ _ _ _ _ (by omega)]; exact h.last i hi
  · intro j; rw [frozen_setCell]; exact h.fp j
  · intro j; rw [frozen_setCell]; exact h.z1 j
  · intro j; rw [frozen_setCell]; exact h.z2 j
  · intro j; rw [frozen_setCell]; exact h.z3 j

theorem PI.setLeft (h : PI w0 w p g1 g2 g3 ao cap0 c1 c2 c3 l st) (k : Nat) (hk : k < l.length) (v : Nat) : PI w0 (w.setCell ⟨g1, k, none⟩ (.int .i64 v)) p g1 g2 g3 ao cap0 c1 c2 c3 l { st with left := upd st.left k v } := by
  have a := h.hp; have b1 := h.h1; have b2 := h.h2; have b3 := h.h3; have n := h.ne
  refine ⟨h.below.setCell b1.1 _, h.holds, by rw [size_setCell]; exact a, by rw [size_setCell]; exact b1, by rw [size_setCell]; exact b2, by rw [size_setCell]; exact b3, n, ?_, ?_, ?_, ?_, ?_, ?_, ?_, ?_, ?_, ?_, ?_, ?_, ?_⟩
  · rw [cell_other _ _ _ _ _ _ (by omega)]; exact h.cL
  · rw [cell_other _ _ _ _ _ _ (by omega)]; exact h.f1
  · rw [cell_other _ _ _ _ _ _ (by omega)]; exact h.f2
  · rw [cell_other _ _ _ _ _ _ (by omega)]; exact h.f3
  · rw [cell_other _ _ _ _ _ _ (by omega)]; exact h.cN
  · rw [cell_other _ _ _ _ _ _ (by omega)]; exact h.cS
  · intro i hi
    by_cases e : i = k
    · subst e; rw [World.cell?_setCell_same _ _ _ (h.left i hi)]; simp only [upd_same]
    · rw [cell_other _ _ _ _ _ _ (by omega), h.left i hi]; simp only [upd_other _ _ _ _ e]
  · intro i hi; rw [cell_other _ _ _ _ _ _ (by omega)]; exact h.due i hi
  · intro i hi; rw [cell_other _ _ _ _ _ _ (by omega)]; exact h.last i hi
  · intro j; rw [frozen_setCell]; exact h.fp j
  · intro j; rw [frozen_setCell]; exact h.z1 j
  · intro j; rw [frozen_setCell]; exact h.z2 j
  · intro j; rw [frozen_setCell]; exact h.z3 j

theorem PI.setDue (h : PI w0 w p g1 g2 g3 ao cap0 c1 c2 c3 l st) (k : Nat) (hk : k < l.length) (v : Nat) : PI w0 (w.setCell ⟨g2, k, none⟩ (.int .i64 v)) p g1 g2 g3 ao cap0 c1 c2 c3 l { st with due := upd st.due k v } := by
  have a := h.hp; have b1 := h.h1; have b2 := h.h2; have b3 := h.h3; have n := h.ne
  refine ⟨h.below.setCell b2.1 _, h.holds, by rw [size_setCell]; exact a, by rw [size_setCell]; exact b1, by rw [size_setCell]; exact b2, by rw [size_setCell]; exact b3, n, ?_, ?_, ?_, ?_, ?_, ?_, ?_, ?_, ?_, ?_, ?_, ?_, ?_⟩
  · rw [cell_other _ _ _ _ _ _ (by omega)]; exact h.cL
  · rw [cell_other _ _ _ _ _ _ (by omega)]; exact h.f1
  · rw [cell_other _ _ _ _ _ _ (by omega)]; exact h.f2
  · rw [cell_other _ _ _ _ _ _ (by omega)]; exact h.f3
  · rw [cell_other _ _ _ _ _ _ (by omega)]; exact h.cN
  · rw [cell_other _ _ _ _ _ _ (by omega)]; exact h.cS
  · intro i hi; rw [cell_other _ _ _ _ _ _ (by omega)]; exact h.left i hi
  · intro i hi
    by_cases e : i = k
    · subst e; rw [World.cell?_setCell_same _ _ _ (h.due i hi)]; simp only [upd_same]
    · rw [cell_other _ _ _ _ _ _ (by omega), h.due i hi]; simp only [upd_other _ _ _ _ e]
  · intro i hi; rw [cell_other _ _ _ _ _ _ (by omega)]; exact h.last i hi
  · intro j; rw [frozen_setCell]; exact h.fp j
  · intro j; rw [frozen_setCell]; exact h.z1 j
  · intro j; rw [frozen_setCell]; exact h.z2 j
  · intro j; rw [frozen_setCell]; exact h.z3 j

theorem PI.setLast (h : PI w0 w p g1 g2 g3 ao cap0 c1 c2 c3 l st) (k : Nat) (hk : k < l.length) (v : Int) : PI w0 (w.setCell ⟨g3, k, none⟩ (.int .i64 v)) p g1 g2 g3 ao cap0 c1 c2 c3 l { st with last := upd st.last k v } := by
  have a := h.hp; have b1 := h.h1; have b2 := h.h2; have b3 := h.h3; have n := h.ne
  refine ⟨h.below.setCell b3.1 _, h.holds, by rw [size_setCell]; exact a, by rw [size_setCell]; exact b1, by rw [size_setCell]; exact b2, by rw [size_setCell]; exact b3, n, ?_, ?_, ?_, ?_, ?_, ?_, ?_, ?_, ?_, ?_, ?_, ?_, ?_⟩
  · rw [cell_other _ _ _ _ _ _ (by omega)]; exact h.cL
  · rw [cell_other _ _ _ _ _ _ (by omega)]; exact h.f1
  · rw [cell_other _ _ _ _ _ _ (by omega)]; exact h.f2
  · rw [cell_other _ _ _ _ _ _ (by omega)]; exact h.f3
  · rw [cell_other _ _ _ _ _ _ (by omega)]; exact h.cN
  · rw [cell_other _ _ _ _ _ _ (by omega)]; exact h.cS
  · intro i hi; rw [cell_other _ _ _ _ _ _ (by omega)]; exact h.left i hi
  · intro i hi; rw [cell_other _ _ _ _ _ _ (by omega)]; exact h.due i hi
  · intro i hi
    by_cases e : i = k
    · subst e; rw [World.cell?_setCell_same _ _ _ (h.last i hi)]; simp only [upd_same]
    · rw [cell_other _ _ _ _ _ _ (by omega), h.last i hi]; simp only [upd_other _ _ _ _ e]
  · intro j; rw [frozen_setCell]; exact h.fp j
  · intro j; rw [frozen_setCell]; exact h.z1 j
  · intro j; rw [frozen_setCell]; exact h.z2 j
  · intro j; rw [frozen_setCell]; exact h.z3 j

end Go.Proofs.Ytbeclgilglepeaa
