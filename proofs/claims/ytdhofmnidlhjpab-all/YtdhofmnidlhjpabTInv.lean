import Derived.Test.YtdhofmnidlhjpabRTest
import Derived.Test.YtdhofmnidlhjpabMath5
import Derived.BigRegion
import Derived.Laws.BytesString
import Derived.OwnWalk
import Derived.Deep.AppendLies
import Derived.Deep.CutRange
namespace Go.Proofs.Ytdhofmnidlhjpab
open Go.RowKit

/-- The plan in memory: in block p; what is left, the deadlines, the last comings in g1, g2, g3; all made behind w0. -/
structure PI (w0 w : World) (p g1 g2 g3 : Nat) (ao : Option Addr) (cap0 c1 c2 c3 : Nat) (l : List Tk) (st : St) : Prop where
  below : Below w0.heap.size w0 w
  holds : HoldsA w0 ao l
  hp : w0.heap.size ≤ p ∧ p < w.heap.size
  h1 : w0.heap.size ≤ g1 ∧ g1 < w.heap.size
  h2 : w0.heap.size ≤ g2 ∧ g2 < w.heap.size
  h3 : w0.heap.size ≤ g3 ∧ g3 < w.heap.size
  ne : p ≠ g1 ∧ p ≠ g2 ∧ p ≠ g3 ∧ g1 ≠ g2 ∧ g1 ≠ g3 ∧ g2 ≠ g3
  cL : w.cell? ⟨p, 0, none⟩ = some (.slice ao l.length cap0)
  f1 : w.cell? ⟨p, 1, none⟩ = some (.slice (some ⟨g1, 0, none⟩) l.length c1)
  f2 : w.cell? ⟨p, 2, none⟩ = some (.slice (some ⟨g2, 0, none⟩) l.length c2)
  f3 : w.cell? ⟨p, 3, none⟩ = some (.slice (some ⟨g3, 0, none⟩) l.length c3)
  cN : w.cell? ⟨p, 4, none⟩ = some (.int .i64 st.now)
  cS : w.cell? ⟨p, 5, none⟩ = some (.string ⟨st.out.toArray⟩)
  left : ∀ i, i < l.length → w.cell? ⟨g1, i, none⟩ = some (.int .i64 (st.left i))
  due : ∀ i, i < l.length → w.cell? ⟨g2, i, none⟩ = some (.int .i64 (st.due i))
  last : ∀ i, i < l.length → w.cell? ⟨g3, i, none⟩ = some (.int .i64 (st.last i))
  fp : ∀ j, w.frozen? ⟨p, j, none⟩ = false
  z1 : ∀ j, w.frozen? ⟨g1, j, none⟩ = false
  z2 : ∀ j, w.frozen? ⟨g2, j, none⟩ = false
  z3 : ∀ j, w.frozen? ⟨g3, j, none⟩ = false

variable {w0 w : World} {p g1 g2 g3 : Nat} {ao : Option Addr} {cap0 c1 c2 c3 : Nat} {l : List Tk} {st : St}

theorem cell_other (w : World) (b o b' o' : Nat) (v : Value) (h : ¬ (b = b' ∧ o = o')) : (w.setCell ⟨b, o, none⟩ v).cell? ⟨b', o', none⟩ = w.cell? ⟨b', o', none⟩ := by
  refine World.cell?_setCell_other _ _ _ _ (fun e => h ?_)
  simp only [Addr.mk.injEq] at e
  exact ⟨e.1, e.2.1⟩

theorem PI.alloc (h : PI w0 w p g1 g2 g3 ao cap0 c1 c2 c3 l st) (o : Obj) : PI w0 (w.alloc o) p g1 g2 g3 ao cap0 c1 c2 c3 l st := by
  have hb := (Below.refl w.heap.size w).alloc (Nat.le_refl _) o
  have cc : ∀ b o', b < w.heap.size → (w.alloc o).cell? ⟨b, o', none⟩ = w.cell? ⟨b, o', none⟩ := fun b o' hlt => hb.cell (p := ⟨b, o', none⟩) hlt
  have ff : ∀ b o', b < w.heap.size → (w.alloc o).frozen? ⟨b, o', none⟩ = w.frozen? ⟨b, o', none⟩ := fun b o' hlt => hb.frozen (p := ⟨b, o', none⟩) hlt
  have hz : (w.alloc o).heap.size = w.heap.size + 1 := World.size_alloc _ _
  have a := h.hp; have b1 := h.h1; have b2 := h.h2; have b3 := h.h3
  refine ⟨h.below.alloc h.below.size o, h.holds, by omega, by omega, by omega, by omega, h.ne, ?_, ?_, ?_, ?_, ?_, ?_, ?_, ?_, ?_, ?_, ?_, ?_, ?_⟩
  · rw [cc _ _ a.2]; exact h.cL
  · rw [cc _ _ a.2]; exact h.f1
  · rw [cc _ _ a.2]; exact h.f2
  · rw [cc _ _ a.2]; exact h.f3
  · rw [cc _ _ a.2]; exact h.cN
  · rw [cc _ _ a.2]; exact h.cS
  · intro i hi; rw [cc _ _ b1.2]; exact h.left i hi
  · intro i hi; rw [cc _ _ b2.2]; exact h.due i hi
  · intro i hi; rw [cc _ _ b3.2]; exact h.last i hi
  · intro j; rw [ff _ _ a.2]; exact h.fp j
  · intro j; rw [ff _ _ b1.2]; exact h.z1 j
  · intro j; rw [ff _ _ b2.2]; exact h.z2 j
  · intro j; rw [ff _ _ b3.2]; exact h.z3 j

theorem PI.drewN (h : PI w0 w p g1 g2 g3 ao cap0 c1 c2 c3 l st) (q : Nat) : PI w0 (w.drewN q) p g1 g2 g3 ao cap0 c1 c2 c3 l st :=
  ⟨belN h.below q, h.holds, h.hp, h.h1, h.h2, h.h3, h.ne, h.cL, h.f1, h.f2, h.f3, h.cN, h.cS, h.left, h.due, h.last, h.fp, h.z1, h.z2, h.z3⟩
theorem PI.drew (h : PI w0 w p g1 g2 g3 ao cap0 c1 c2 c3 l st) : PI w0 w.drew p g1 g2 g3 ao cap0 c1 c2 c3 l st := h.drewN 1

theorem size_setCell (w : World) (a : Addr) (v : Value) : (w.setCell a v).heap.size = w.heap.size := by simp [World.setCell]
theorem frozen_setCell (w : World) (a b : Addr) (v : Value) : (w.setCell a v).frozen? b = w.frozen? b := by simp

theorem PI.setOut (h : PI w0 w p g1 g2 g3 ao cap0 c1 c2 c3 l st) (s : List UInt8) : PI w0 (w.setCell ⟨p, 5, none⟩ (.string ⟨s.toArray⟩)) p g1 g2 g3 ao cap0 c1 c2 c3 l { st with out := s } := by
  have a := h.hp; have b1 := h.h1; have b2 := h.h2; have b3 := h.h3; have n := h.ne
  refine ⟨h.below.setCell a.1 _, h.holds, by rw [size_setCell]; exact a, by rw [size_setCell]; exact b1, by rw [size_setCell]; exact b2, by rw [size_setCell]; exact b3, n, ?_, ?_, ?_, ?_, ?_, ?_, ?_, ?_, ?_, ?_, ?_, ?_, ?_⟩
  · rw [cell_other _ _ _ _ _ _ (by omega)]; exact h.cL
  · rw [cell_other _ _ _ _ _ _ (by omega)]; exact h.f1
  · rw [cell_other _ _ _ _ _ _ (by omega)]; exact h.f2
  · rw [cell_other _ _ _ _ _ _ (by omega)]; exact h.f3
  · rw [cell_other _ _ _ _ _ _ (by omega)]; exact h.cN
  · exact World.cell?_setCell_same _ _ _ h.cS
  · intro i hi; rw [cell_other _ _ _ _ _ _ (by omega)]; exact h.left i hi
  · intro i hi; rw [cell_other _ _ _ _ _ _ (by omega)]; exact h.due i hi
  · intro i hi; rw [cell_other _ _ _ _ _ _ (by omega)]; exact h.last i hi
  · intro j; rw [frozen_setCell]; exact h.fp j
  · intro j; rw [frozen_setCell]; exact h.z1 j
  · intro j; rw [frozen_setCell]; exact h.z2 j
  · intro j; rw [frozen_setCell]; exact h.z3 j

theorem PI.setNow (h : PI w0 w p g1 g2 g3 ao cap0 c1 c2 c3 l st) (m : Nat) : PI w0 (w.setCell ⟨p, 4, none⟩ (.int .i64 m)) p g1 g2 g3 ao cap0 c1 c2 c3 l { st with now := m } := by
  have a := h.hp; have b1 := h.h1; have b2 := h.h2; have b3 := h.h3; have n := h.ne
  refine ⟨h.below.setCell a.1 _, h.holds, by rw [size_setCell]; exact a, by rw [size_setCell]; exact b1, by rw [size_setCell]; exact b2, by rw [size_setCell]; exact b3, n, ?_, ?_, ?_, ?_, ?_, ?_, ?_, ?_, ?_, ?_, ?_, ?_, ?_⟩
  · rw [cell_other _ _ _ _ _ _ (by omega)]; exact h.cL
  · rw [cell_other _ _ _ _ _ _ (by omega)]; exact h.f1
  · rw [cell_other _ _ _ _ _ _ (by omega)]; exact h.f2
  · rw [cell_other _ _ _ _ _ _ (by omega)]; exact h.f3
  · exact World.cell?_setCell_same _ _ _ h.cN
  · rw [cell_other _ _ _ _ _ _ (by omega)]; exact h.cS
  · intro i hi; rw [cell_other _ _ _ _ _ _ (by omega)]; exact h.left i hi
  · intro i hi; rw [cell_other _ _ _ _ _ _ (by omega)]; exact h.due i hi
  · intro i hi; rw [cell_other _ _ _ _ _ _ (by omega)]; exact h.last i hi
  · intro j; rw [frozen_setCell]; exact h.fp j
  · intro j; rw [frozen_setCell]; exact h.z1 j
  · intro j; rw [frozen_setCell]; exact h.z2 j
  · intro j; rw [frozen_setCell]; exact h.z3 j

theorem PI.setLeft (h : PI w0 w p g1 g2 g3 ao cap0 c1 c2 c3 l st) (k : Nat) (hk : k < l.length) (v : Nat) : PI w0 (w.setCell ⟨g1, k, none⟩ (.int .i64 v)) p g1 g2 g3 ao cap0 c1 c2 c3 l { st with left := upd st.left k v } := by
  have a := h.hp; have b1 := h.h1; have b2 := h.h2; have b3 := h.h3; have n := h.ne
  refine ⟨h.below.setCell b1.1 _, h.holds, by rw [size_setCell]; exact a, by rw [size_setCell]; exact b1, by rw [size_setCell]; exact b2, by rw [size_setCell]; exact b3, n, ?_, ?_, ?_, ?_, ?_, ?_, ?_, ?_, ?_, ?_, ?_, ?_, ?_⟩
  · rw [cell_other _ _ _ _ _ _ (by omega)]; exact h.cL
  · rw [cell_other _ _ _ _ _ _ (by omega)]; exact h.f1
  · rw [cell_other _ _ _ _ _ _ (by omega)]; exact h.f2
  · rw [cell_other _ _ _ _ _ _ (by omega)]; exact h.f3
  · rw [cell_other _ _ _ _ _ _ (by omega)]; exact h.cN
  · rw [cell_other _ _ _ _ _ _ (by omega)]; exact h.cS
  · intro i hi
    by_cases e : i = k
    · subst e; rw [World.cell?_setCell_same _ _ _ (h.left i hi)]; simp only [upd_same]
    · rw [cell_other _ _ _ _ _ _ (by omega), h.left i hi]; simp only [upd_other _ _ _ _ e]
  · intro i hi; rw [cell_other _ _ _ _ _ _ (by omega)]; exact h.due i hi
  · intro i hi; rw [cell_other _ _ _ _ _ _ (by omega)]; exact h.last i hi
  · intro j; rw [frozen_setCell]; exact h.fp j
  · intro j; rw [frozen_setCell]; exact h.z1 j
  · intro j; rw [frozen_setCell]; exact h.z2 j
  · intro j; rw [frozen_setCell]; exact h.z3 j

theorem PI.setDue (h : PI w0 w p g1 g2 g3 ao cap0 c1 c2 c3 l st) (k : Nat) (hk : k < l.length) (v : Nat) : PI w0 (w.setCell ⟨g2, k, none⟩ (.int .i64 v)) p g1 g2 g3 ao cap0 c1 c2 c3 l { st with due := upd st.due k v } := by
  have a := h.hp; have b1 := h.h1; have b2 := h.h2; have b3 := h.h3; have n := h.ne
  refine ⟨h.below.setCell b2.1 _, h.holds, by rw [size_setCell]; exact a, by rw [size_setCell]; exact b1, by rw [size_setCell]; exact b2, by rw [size_setCell]; exact b3, n, ?_, ?_, ?_, ?_, ?_, ?_, ?_, ?_, ?_, ?_, ?_, ?_, ?_⟩
  · rw [cell_other _ _ _ _ _ _ (by omega)]; exact h.cL
  · rw [cell_other _ _ _ _ _ _ (by omega)]; exact h.f1
  · rw [cell_other _ _ _ _ _ _ (by omega)]; exact h.f2
  · rw [cell_other _ _ _ _ _ _ (by omega)]; exact h.f3
  · rw [cell_other _ _ _ _ _ _ (by omega)]; exact h.cN
  · rw [cell_other _ _ _ _ _ _ (by omega)]; exact h.cS
  · intro i hi; rw [cell_other _ _ _ _ _ _ (by omega)]; exact h.left i hi
  · intro i hi
    by_cases e : i = k
    · subst e; rw [World.cell?_setCell_same _ _ _ (h.due i hi)]; simp only [upd_same]
    · rw [cell_other _ _ _ _ _ _ (by omega), h.due i hi]; simp only [upd_other _ _ _ _ e]
  · intro i hi; rw [cell_other _ _ _ _ _ _ (by omega)]; exact h.last i hi
  · intro j; rw [frozen_setCell]; exact h.fp j
  · intro j; rw [frozen_setCell]; exact h.z1 j
  · intro j; rw [frozen_setCell]; exact h.z2 j
  · intro j; rw [frozen_setCell]; exact h.z3 j

theorem PI.setLast (h : PI w0 w p g1 g2 g3 ao cap0 c1 c2 c3 l st) (k : Nat) (hk : k < l.length) (v : Int) : PI w0 (w.setCell ⟨g3, k, none⟩ (.int .i64 v)) p g1 g2 g3 ao cap0 c1 c2 c3 l { st with last := upd st.last k v } := by
  have a := h.hp; have b1 := h.h1; have b2 := h.h2; have b3 := h.h3; have n := h.ne
  refine ⟨h.below.setCell b3.1 _, h.holds, by rw [size_setCell]; exact a, by rw [size_setCell]; exact b1, by rw [size_setCell]; exact b2, by rw [size_setCell]; exact b3, n, ?_, ?_, ?_, ?_, ?_, ?_, ?_, ?_, ?_, ?_, ?_, ?_, ?_⟩
  · rw [cell_other _ _ _ _ _ _ (by omega)]; exact h.cL
  · rw [cell_other _ _ _ _ _ _ (by omega)]; exact h.f1
  · rw [cell_other _ _ _ _ _ _ (by omega)]; exact h.f2
  · rw [cell_other _ _ _ _ _ _ (by omega)]; exact h.f3
  · rw [cell_other _ _ _ _ _ _ (by omega)]; exact h.cN
  · rw [cell_other _ _ _ _ _ _ (by omega)]; exact h.cS
  · intro i hi; rw [cell_other _ _ _ _ _ _ (by omega)]; exact h.left i hi
  · intro i hi; rw [cell_other _ _ _ _ _ _ (by omega)]; exact h.due i hi
  · intro i hi
    by_cases e : i = k
    · subst e; rw [World.cell?_setCell_same _ _ _ (h.last i hi)]; simp only [upd_same]
    · rw [cell_other _ _ _ _ _ _ (by omega), h.last i hi]; simp only [upd_other _ _ _ _ e]
  · intro j; rw [frozen_setCell]; exact h.fp j
  · intro j; rw [frozen_setCell]; exact h.z1 j
  · intro j; rw [frozen_setCell]; exact h.z2 j
  · intro j; rw [frozen_setCell]; exact h.z3 j

end Go.Proofs.Ytdhofmnidlhjpab

namespace Go.Proofs.Ytdhofmnidlhjpab
open Go.RowKit

theorem conv_one (c : Nat) (W : World) (b : Nat) (h : W.cell? ⟨b, 0, none⟩ = some (.int .u8 c)) :
    (convert 62 9 (.slice (some ⟨b, 0, none⟩) 1 1)).run Try.prog W = .ok (.string (ByteArray.empty.push (UInt8.ofNat c))) W := by
  rw [run_convert_bytes_string W 62 9 5 _ 1 1 Try.underlying62 Try.underlying5 Try.underlying9]
  rw [run_bytesToString W ⟨b, 0, none⟩ 1 1 [(c : Int)] ?_]
  · simp
  · simp [loadCells, h, go_sem]

theorem out_push (l : List UInt8) (c : UInt8) : (⟨l.toArray⟩ : ByteArray) ++ ByteArray.empty.push c = ⟨(l ++ [c]).toArray⟩ := by
  have : ByteArray.empty.push c = ⟨[c].toArray⟩ := rfl
  rw [this, ByteArray.mk_append_mk]

variable {w0 w : World} {p g1 g2 g3 : Nat} {ao : Option Addr} {cap0 c1 c2 c3 : Nat} {l : List Tk} {st : St}

set_option maxRecDepth 100000 in
set_option maxHeartbeats 800000 in
theorem ref_told (h : PI w0 w p g1 g2 g3 ao cap0 c1 c2 c3 l st) (c : Nat) (hout : st.out.length ≤ 20000) :
    Calls Try.prog 69 #[.pointer (some ⟨p, 0, none⟩), .int .u8 c] w fun e w' => e = .returned (.tuple #[]) ∧ PI w0 w' p g1 g2 g3 ao cap0 c1 c2 c3 l (tell st (UInt8.ofNat c)) := by
  have hp := h.hp.2
  have hcell := h.cS
  have hfz := h.fp 5
  have hlen : (⟨st.out.toArray⟩ : ByteArray).size ≤ 20000 := by show st.out.toArray.size ≤ 20000; simpa using hout
  have hP : Hid (PI w0 ((w.setCell ⟨p, 5, none⟩ (.string ⟨(st.out ++ [UInt8.ofNat c]).toArray⟩)).alloc (Obj.cells #[Value.int IntKind.u8 c] 5)).drew p g1 g2 g3 ao cap0 c1 c2 c3 l (tell st (UInt8.ofNat c))) := ((h.setOut (st.out ++ [UInt8.ofNat c])).alloc _).drew
  have HE : Hid ((⟨st.out.toArray⟩ : ByteArray) ++ ByteArray.empty.push (UInt8.ofNat c) = ⟨(st.out ++ [UInt8.ofNat c]).toArray⟩) := out_push _ _
  clear h hout
  generalize (⟨st.out.toArray⟩ : ByteArray) = S at *
  have hcv : (convert 62 9 (.slice (some ⟨w.heap.size, 0, none⟩) 1 1)).run Try.prog (w.alloc (Obj.cells #[Value.int IntKind.u8 c] 5)).drew = .ok (.string (ByteArray.empty.push (UInt8.ofNat c))) (w.alloc (Obj.cells #[Value.int IntKind.u8 c] 5)).drew := by
    refine conv_one c _ _ ?_
    simp
  go_enter Try.func69, Try.ntmps69
  go_big_region
  go_wp2
  go_end0
  refine ⟨rfl, ?_⟩
  rw [HE.out]
  exact hP.out
end Go.Proofs.Ytdhofmnidlhjpab

namespace Go.Proofs.Ytdhofmnidlhjpab
open Go.RowKit

theorem Try.infoInt : (Try.prog.info? 3).map (fun i => (i.zero, i.size, i.bytes)) = some (some (.int .i64 0), 1, 8) := by kernel_rfl

/-- The plan while it is made: k1, k2, k3 numbers lie in its three rows. -/
structure BI (w W : World) (L : Value) (k1 k2 k3 : Nat) (v1 v2 v3 : Value) : Prop where
  below : Below w.heap.size w W
  hp : w.heap.size < W.heap.size
  cL : W.cell? ⟨w.heap.size, 0, none⟩ = some L
  f1 : W.cell? ⟨w.heap.size, 1, none⟩ = some v1
  f2 : W.cell? ⟨w.heap.size, 2, none⟩ = some v2
  f3 : W.cell? ⟨w.heap.size, 3, none⟩ = some v3
  cN : W.cell? ⟨w.heap.size, 4, none⟩ = some (.int .i64 0)
  cS : W.cell? ⟨w.heap.size, 5, none⟩ = some (.string ⟨#[]⟩)
  fp : ∀ j, W.frozen? ⟨w.heap.size, j, none⟩ = false
  own1 : W.ownsRow (w.heap.size + 1) 3 1 v1 k1 (List.replicate k1 (.int .i64 0))
  own2 : W.ownsRow (w.heap.size + 1) 3 1 v2 k2 (List.replicate k2 (.int .i64 0))
  own3 : W.ownsRow (w.heap.size + 1) 3 1 v3 k3 (List.replicate k3 (.int .i64 (-1)))
  n12 : ∀ b, v1.ownBlock = some b → v2.ownBlock ≠ some b
  n13 : ∀ b, v1.ownBlock = some b → v3.ownBlock ≠ some b
  n23 : ∀ b, v2.ownBlock = some b → v3.ownBlock ≠ some b

/-- A cell of the plan's own block behind an append to a row. -/
theorem plan_far {w W W1 : World} {v : Value} {n : Nat} {xs : List Value} (hp : w.heap.size < W.heap.size) (ho : W.ownsRow (w.heap.size + 1) 3 1 v n xs) (o : Obj) (hg : (W.alloc o).grownBy W1 v.ownBlock) (j : Nat) :
    W1.cell? ⟨w.heap.size, j, none⟩ = W.cell? ⟨w.heap.size, j, none⟩ ∧ W1.frozen? ⟨w.heap.size, j, none⟩ = W.frozen? ⟨w.heap.size, j, none⟩ := by
  have hb := (Below.refl W.heap.size W).alloc (Nat.le_refl _) o
  have hne : some w.heap.size ≠ v.ownBlock := by
    intro e
    have := (ho.lt _ e.symm).1
    omega
  refine ⟨?_, ?_⟩
  · rw [hg.cell_far ⟨w.heap.size, j, none⟩ (by simp; omega) hne, hb.cell (p := ⟨w.heap.size, j, none⟩) hp]
  · rw [hg.frozen_far ⟨w.heap.size, j, none⟩ (by simp; omega) hne, hb.frozen (p := ⟨w.heap.size, j, none⟩) hp]

theorem rep_snoc (k : Nat) (v : Value) : List.replicate k v ++ [v] = List.replicate (k + 1) v := by
  rw [← List.replicate_succ']

theorem grow_size {W W1 : World} {o : Obj} {r : Option Nat} (hg : (W.alloc o).grownBy W1 r) : W.heap.size + 1 ≤ W1.heap.size := by
  have := hg.size; rw [World.size_alloc] at this; exact this

/-- What is appended to lies elsewhere than what is not. -/
theorem apart_new {W : World} {B n' g H : Nat} {v u : Value} {ys : List Value} (hu : W.ownsRow B 3 1 u n' ys) (hH : H = W.heap.size + 1) (hat : v.ownBlock = some g ∨ g = H)
    (hd : ∀ b, v.ownBlock = some b → u.ownBlock ≠ some b) : u.ownBlock ≠ some g := by
  rcases hat with h | h
  · exact hd g h
  · intro e
    have := (hu.lt g e).2
    omega

theorem kept_of {W W1 : World} {B n' : Nat} {v u : Value} {ys : List Value} {o : Obj} (hu : W.ownsRow B 3 1 u n' ys) (hg : (W.alloc o).grownBy W1 v.ownBlock) (hd : ∀ b, v.ownBlock = some b → u.ownBlock ≠ some b) :
    W1.ownsRow B 3 1 u n' ys := by
  refine (hu.alloc o).kept hg ?_
  cases e : u.ownBlock with
  | none => exact Or.inl rfl
  | some b => right; intro e2; exact hd b e2.symm e

theorem BI.app1 {w W W1 : World} {L : Value} {k1 k2 k3 : Nat} {v1 v2 v3 : Value} (h : BI w W L k1 k2 k3 v1 v2 v3) {o : Obj} {g cap : Nat} (hg : (W.alloc o).grownBy W1 v1.ownBlock) (hat : v1.ownBlock = some g ∨ g = W.heap.size + 1)
    (hown : W1.ownsRow (w.heap.size + 1) 3 1 (.slice (some ⟨g, 0, none⟩) (k1 + 1) cap) (k1 + 1) (List.replicate k1 (.int .i64 0) ++ [.int .i64 0])) :
    BI w (W1.setCell ⟨w.heap.size, 1, none⟩ (.slice (some ⟨g, 0, none⟩) (k1 + 1) cap)) L (k1 + 1) k2 k3 (.slice (some ⟨g, 0, none⟩) (k1 + 1) cap) v2 v3 := by
  have hz := grow_size hg
  have hp := h.hp
  have far := plan_far hp h.own1 o hg
  have a12 : v2.ownBlock ≠ some g := apart_new (v := v1) h.own2 rfl hat h.n12
  have a13 : v3.ownBlock ≠ some g := apart_new (v := v1) h.own3 rfl hat h.n13
  rw [rep_snoc] at hown
  refine ⟨(Below.grown (h.below.alloc h.below.size o) hg (by rw [World.size_alloc]; omega) (fun q hq => by have := (h.own1.lt q hq).1; omega)).setCell (Nat.le_refl _) _, by rw [size_setCell]; omega, ?_, ?_, ?_, ?_, ?_, ?_, ?_,
    ownsRow_setCell_below hown (Nat.lt_succ_self _) _, ownsRow_setCell_below (kept_of h.own2 hg h.n12) (Nat.lt_succ_self _) _, ownsRow_setCell_below (kept_of h.own3 hg h.n13) (Nat.lt_succ_self _) _, ?_, ?_, h.n23⟩
  · rw [cell_other _ _ _ _ _ _ (by omega), (far 0).1]; exact h.cL
  · exact World.cell?_setCell_same _ _ _ ((far 1).1.trans h.f1)
  · rw [cell_other _ _ _ _ _ _ (by omega), (far 2).1]; exact h.f2
  · rw [cell_other _ _ _ _ _ _ (by omega), (far 3).1]; exact h.f3
  · rw [cell_other _ _ _ _ _ _ (by omega), (far 4).1]; exact h.cN
  · rw [cell_other _ _ _ _ _ _ (by omega), (far 5).1]; exact h.cS
  · intro j; rw [frozen_setCell, (far j).2]; exact h.fp j
  · intro b hb; simp only [Value.ownBlock, Option.some.injEq] at hb; subst hb; exact a12
  · intro b hb; simp only [Value.ownBlock, Option.some.injEq] at hb; subst hb; exact a13

theorem BI.app2 {w W W1 : World} {L : Value} {k1 k2 k3 : Nat} {v1 v2 v3 : Value} (h : BI w W L k1 k2 k3 v1 v2 v3) {o : Obj} {g cap : Nat} (hg : (W.alloc o).grownBy W1 v2.ownBlock) (hat : v2.ownBlock = some g ∨ g = W.heap.size + 1)
    (hown : W1.ownsRow (w.heap.size + 1) 3 1 (.slice (some ⟨g, 0, none⟩) (k2 + 1) cap) (k2 + 1) (List.replicate k2 (.int .i64 0) ++ [.int .i64 0])) :
    BI w (W1.setCell ⟨w.heap.size, 2, none⟩ (.slice (some ⟨g, 0, none⟩) (k2 + 1) cap)) L k1 (k2 + 1) k3 v1 (.slice (some ⟨g, 0, none⟩) (k2 + 1) cap) v3 := by
  have hz := grow_size hg
  have hp := h.hp
  have far := plan_far hp h.own2 o hg
  have n21 : ∀ b, v2.ownBlock = some b → v1.ownBlock ≠ some b := fun b hb e => h.n12 b e hb
  have a21 : v1.ownBlock ≠ some g := apart_new (v := v2) h.own1 rfl hat n21
  have a23 : v3.ownBlock ≠ some g := apart_new (v := v2) h.own3 rfl hat h.n23
  rw [rep_snoc] at hown
  refine ⟨(Below.grown (h.below.alloc h.below.size o) hg (by rw [World.size_alloc]; omega) (fun q hq => by have := (h.own2.lt q hq).1; omega)).setCell (Nat.le_refl _) _, by rw [size_setCell]; omega, ?_, ?_, ?_, ?_, ?_, ?_, ?_,
    ownsRow_setCell_below (kept_of h.own1 hg n21) (Nat.lt_succ_self _) _, ownsRow_setCell_below hown (Nat.lt_succ_self _) _, ownsRow_setCell_below (kept_of h.own3 hg h.n23) (Nat.lt_succ_self _) _, ?_, h.n13, ?_⟩
  · rw [cell_other _ _ _ _ _ _ (by omega), (far 0).1]; exact h.cL
  · rw [cell_other _ _ _ _ _ _ (by omega), (far 1).1]; exact h.f1
  · exact World.cell?_setCell_same _ _ _ ((far 2).1.trans h.f2)
  · rw [cell_other _ _ _ _ _ _ (by omega), (far 3).1]; exact h.f3
  · rw [cell_other _ _ _ _ _ _ (by omega), (far 4).1]; exact h.cN
  · rw [cell_other _ _ _ _ _ _ (by omega), (far 5).1]; exact h.cS
  · intro j; rw [frozen_setCell, (far j).2]; exact h.fp j
  · intro b hb e; simp only [Value.ownBlock, Option.some.injEq] at e; subst e; exact a21 hb
  · intro b hb; simp only [Value.ownBlock, Option.some.injEq] at hb; subst hb; exact a23

theorem BI.app3 {w W W1 : World} {L : Value} {k1 k2 k3 : Nat} {v1 v2 v3 : Value} (h : BI w W L k1 k2 k3 v1 v2 v3) {o : Obj} {g cap : Nat} (hg : (W.alloc o).grownBy W1 v3.ownBlock) (hat : v3.ownBlock = some g ∨ g = W.heap.size + 1)
    (hown : W1.ownsRow (w.heap.size + 1) 3 1 (.slice (some ⟨g, 0, none⟩) (k3 + 1) cap) (k3 + 1) (List.replicate k3 (.int .i64 (-1)) ++ [.int .i64 (-1)])) :
    BI w (W1.setCell ⟨w.heap.size, 3, none⟩ (.slice (some ⟨g, 0, none⟩) (k3 + 1) cap)) L k1 k2 (k3 + 1) v1 v2 (.slice (some ⟨g, 0, none⟩) (k3 + 1) cap) := by
  have hz := grow_size hg
  have hp := h.hp
  have far := plan_far hp h.own3 o hg
  have n31 : ∀ b, v3.ownBlock = some b → v1.ownBlock ≠ some b := fun b hb e => h.n13 b e hb
  have n32 : ∀ b, v3.ownBlock = some b → v2.ownBlock ≠ some b := fun b hb e => h.n23 b e hb
  have a31 : v1.ownBlock ≠ some g := apart_new (v := v3) h.own1 rfl hat n31
  have a32 : v2.ownBlock ≠ some g := apart_new (v := v3) h.own2 rfl hat n32
  rw [rep_snoc] at hown
  refine ⟨(Below.grown (h.below.alloc h.below.size o) hg (by rw [World.size_alloc]; omega) (fun q hq => by have := (h.own3.lt q hq).1; omega)).setCell (Nat.le_refl _) _, by rw [size_setCell]; omega, ?_, ?_, ?_, ?_, ?_, ?_, ?_,
    ownsRow_setCell_below (kept_of h.own1 hg n31) (Nat.lt_succ_self _) _, ownsRow_setCell_below (kept_of h.own2 hg n32) (Nat.lt_succ_self _) _, ownsRow_setCell_below hown (Nat.lt_succ_self _) _, h.n12, ?_, ?_⟩
  · rw [cell_other _ _ _ _ _ _ (by omega), (far 0).1]; exact h.cL
  · rw [cell_other _ _ _ _ _ _ (by omega), (far 1).1]; exact h.f1
  · rw [cell_other _ _ _ _ _ _ (by omega), (far 2).1]; exact h.f2
  · exact World.cell?_setCell_same _ _ _ ((far 3).1.trans h.f3)
  · rw [cell_other _ _ _ _ _ _ (by omega), (far 4).1]; exact h.cN
  · rw [cell_other _ _ _ _ _ _ (by omega), (far 5).1]; exact h.cS
  · intro j; rw [frozen_setCell, (far j).2]; exact h.fp j
  · intro b hb e; simp only [Value.ownBlock, Option.some.injEq] at e; subst e; exact a31 hb
  · intro b hb e; simp only [Value.ownBlock, Option.some.injEq] at e; subst e; exact a32 hb

/-- The plan that is made: nothing has come. -/
theorem BI.done {w W : World} {ao : Option Addr} {n cap : Nat} {l : List Tk} {v1 v2 v3 : Value} (h : BI w W (.slice ao n cap) n n n v1 v2 v3) (hn : n = l.length) (hpos : 0 < n) (hH : HoldsA w ao l) :
    ∃ g1 g2 g3 c1 c2 c3, PI w W w.heap.size g1 g2 g3 ao cap c1 c2 c3 l st0 := by
  obtain ⟨g1, c1, rfl, hb1, hg1⟩ := h.own1.form hpos
  obtain ⟨g2, c2, rfl, hb2, hg2⟩ := h.own2.form hpos
  obtain ⟨g3, c3, rfl, hb3, hg3⟩ := h.own3.form hpos
  have n12 : g1 ≠ g2 := fun e => h.n12 g1 rfl (by rw [e]; rfl)
  have n13 : g1 ≠ g3 := fun e => h.n13 g1 rfl (by rw [e]; rfl)
  have n23 : g2 ≠ g3 := fun e => h.n23 g2 rfl (by rw [e]; rfl)
  subst hn
  refine ⟨g1, g2, g3, c1, c2, c3, h.below, hH, ⟨Nat.le_refl _, h.hp⟩, ⟨by omega, hg1⟩, ⟨by omega, hg2⟩, ⟨by omega, hg3⟩, ⟨by omega, by omega, by omega, n12, n13, n23⟩, h.cL, h.f1, h.f2, h.f3, h.cN, h.cS, ?_, ?_, ?_, h.fp, ?_, ?_, ?_⟩
  · intro i hi
    rw [h.own1.cellAt i (by omega)]
    simp [st0, hi]
  · intro i hi
    rw [h.own2.cellAt i (by omega)]
    simp [st0, hi]
  · intro i hi
    rw [h.own3.cellAt i (by omega)]
    simp [st0, hi]
  · exact h.own1.frozenAt
  · exact h.own2.frozenAt
  · exact h.own3.frozenAt

end Go.Proofs.Ytdhofmnidlhjpab

namespace Go.Proofs.Ytdhofmnidlhjpab
open Go.RowKit

set_option maxRecDepth 100000 in
set_option maxHeartbeats 3200000 in
theorem ref_begin (ao : Option Addr) (n cap : Nat) (l : List Tk) (w : World) (hn : n = l.length) (hl : l.length ≤ 8) (hpos : 0 < l.length) (hH : HoldsA w ao l) :
    Calls Try.prog 52 #[.slice ao n cap] w fun e w' => ∃ g1 g2 g3 c1 c2 c3, e = .returned (.pointer (some ⟨w.heap.size, 0, none⟩)) ∧ PI w w' w.heap.size g1 g2 g3 ao cap c1 c2 c3 l st0 := by
  obtain ⟨i0, hi0, hz0, hz1, hz2⟩ := info_parts Try.infoInt
  have HN : Hid (n = l.length) := hn
  have hn8 : n ≤ 8 := by omega
  have HH : Hid (HoldsA w ao l) := hH
  have HPo : Hid (0 < n) := by unfold Hid; omega
  clear hn hl hpos hH
  go_enter Try.func52, Try.ntmps52
  go_wp2
  go_loopw [4] (fun i wr => ∃ (k : Nat) (v1 v2 v3 : Value), k ≤ n ∧ i = .int .i64 k ∧ BI w wr (.slice ao n cap) k k k v1 v2 v3) (fun i _ => n - (intOf i).toNat)
  case atStart =>
    refine ⟨0, .slice none 0 0, .slice none 0 0, .slice none 0 0, by omega, rfl, (Below.refl _ _).alloc (Nat.le_refl _) _, by simp, by simp, by simp, by simp, by simp, by simp, by simp, by intro j; simp, World.ownsRow_nil _ _ _ _, World.ownsRow_nil _ _ _ _, World.ownsRow_nil _ _ _ _, fun b h => (by cases h), fun b h => (by cases h), fun b h => (by cases h)⟩
  case round =>
    obtain ⟨k, v1, v2, v3, hk, rfl, hB⟩ := hrel
    by_cases hlt : k < n
    · have hpp := hB.hp
      have f1 := hB.f1
      have p1 := hB.fp 1
      have hbs := hB.below.size
      go_upto_region 6 with (at_builtin; refine wpList_append_lies _ (by rfl) _ _ _ (by rfl) (w.heap.size + 1) 3 i0 _ 1 8 Try.underlying88 hi0 hz0 hz1 hz2 rfl (by omega) v1 k _ (by rfl) (hB.own1.alloc _) ⟨wr.heap.size, 0, none⟩ 1 1 [.int .i64 0] (by rfl) (by rfl) (World.news_of_block (cs := #[.int .i64 0]) (t := 3) (fr := (0, 0)) (heap_alloc_new wr _)) (by simp [Value.oneCell']) (by omega) (by unfold maxLen; omega) (by omega) (by simp; omega) (wr.heap.size + 1) (by simp) ?_; intro gg1 cp1 w1 hown1 hgrow1 hat1 hlt1; have y1 := (plan_far hpp hB.own1 _ hgrow1 1).1.trans f1; have y2 := (plan_far hpp hB.own1 _ hgrow1 1).2.trans p1)
      have hB1 := hB.app1 hgrow1 hat1 hown1
      clear hB f1 p1 y1 y2 hown1 hgrow1 hat1 hlt1 hpp hbs
      generalize w1.setCell ⟨w.heap.size, 1, none⟩ (.slice (some ⟨gg1, 0, none⟩) (k + 1) cp1) = W1 at *
      have hpp := hB1.hp
      have f2 := hB1.f2
      have p2 := hB1.fp 2
      have hbs := hB1.below.size
      go_upto_region 7 with (at_builtin; refine wpList_append_lies _ (by rfl) _ _ _ (by rfl) (w.heap.size + 1) 3 i0 _ 1 8 Try.underlying88 hi0 hz0 hz1 hz2 rfl (by omega) v2 k _ (by rfl) (hB1.own2.alloc _) ⟨W1.heap.size, 0, none⟩ 1 1 [.int .i64 0] (by rfl) (by rfl) (World.news_of_block (cs := #[.int .i64 0]) (t := 3) (fr := (0, 0)) (heap_alloc_new W1 _)) (by simp [Value.oneCell']) (by omega) (by unfold maxLen; omega) (by omega) (by simp; omega) (W1.heap.size + 1) (by simp) ?_; intro gg2 cp2 w2 hown2 hgrow2 hat2 hlt2; have y2 := (plan_far hpp hB1.own2 _ hgrow2 2).1.trans f2; have z2 := (plan_far hpp hB1.own2 _ hgrow2 2).2.trans p2)
      have hB2 := hB1.app2 hgrow2 hat2 hown2
      clear hB1 f2 p2 y2 z2 hown2 hgrow2 hat2 hlt2 hpp hbs
      generalize w2.setCell ⟨w.heap.size, 2, none⟩ (.slice (some ⟨gg2, 0, none⟩) (k + 1) cp2) = W2 at *
      have hpp := hB2.hp
      have f3 := hB2.f3
      have p3 := hB2.fp 3
      have hbs := hB2.below.size
      go_wp2_with (at_builtin; refine wpList_append_lies _ (by rfl) _ _ _ (by rfl) (w.heap.size + 1) 3 i0 _ 1 8 Try.underlying88 hi0 hz0 hz1 hz2 rfl (by omega) v3 k _ (by rfl) (hB2.own3.alloc _) ⟨W2.heap.size, 0, none⟩ 1 1 [.int .i64 (-1)] (by rfl) (by rfl) (World.news_of_block (cs := #[.int .i64 (-1)]) (t := 3) (fr := (0, 0)) (heap_alloc_new W2 _)) (by simp [Value.oneCell']) (by omega) (by unfold maxLen; omega) (by omega) (by simp; omega) (W2.heap.size + 1) (by simp) ?_; intro gg3 cp3 w3 hown3 hgrow3 hat3 hlt3; have y3 := (plan_far hpp hB2.own3 _ hgrow3 3).1.trans f3; have z3 := (plan_far hpp hB2.own3 _ hgrow3 3).2.trans p3)
      have hB3 := hB2.app3 hgrow3 hat3 hown3
      go_roundw
      case rel => exact ⟨k + 1, _, _, _, by omega, by go_num, hB3⟩
      case measure => simp [intOf]; omega
    · have e : k = n := by omega
      subst e
      go_wp2
      go_ret
      obtain ⟨g1, g2, g3, c1, c2, c3, hPI⟩ := hB.done HN.out HPo.out HH.out
      exact ⟨g1, g2, g3, c1, c2, c3, rfl, hPI⟩
end Go.Proofs.Ytdhofmnidlhjpab
