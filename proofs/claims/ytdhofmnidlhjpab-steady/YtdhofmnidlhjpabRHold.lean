import Derived.Test.YtdhofmnidlhjpabRTasks
import Derived.Deep.Draws
namespace Go.Proofs.Ytdhofmnidlhjpab
open Go.RowKit

/-- From the address on lie the cells of the tasks. -/
def HoldsA (w : World) (ao : Option Addr) (l : List Tk) : Prop :=
  ∀ i, (h : i < l.length) → ∃ b, ao = some ⟨b, 0, none⟩ ∧ b < w.heap.size ∧ w.cell? ⟨b, i * 3, none⟩ = some (.int .i64 l[i].c) ∧ w.cell? ⟨b, i * 3 + 1, none⟩ = some (.int .i64 l[i].d) ∧ w.cell? ⟨b, i * 3 + 2, none⟩ = some (.int .i64 l[i].t)

theorem rowOf_at (l : List Tk) : ∀ i, (h : i < l.length) → (rowOf l)[i * 3]? = some (.int .i64 l[i].c) ∧ (rowOf l)[i * 3 + 1]? = some (.int .i64 l[i].d) ∧ (rowOf l)[i * 3 + 2]? = some (.int .i64 l[i].t) := by
  induction l with
  | nil => intro i h; simp at h
  | cons x r ih =>
    intro i h
    cases i with
    | zero => simp [rowOf, tkCells]
    | succ i =>
      have := ih i (by simpa using h)
      simp only [rowOf, tkCells, Nat.succ_mul, List.cons_append, List.nil_append]
      simpa [Nat.add_assoc] using this

theorem rowOf_length (l : List Tk) : (rowOf l).length = l.length * 3 := by
  induction l with
  | nil => rfl
  | cons x r ih => simp only [rowOf, tkCells, List.length_append, List.length_cons, List.length_nil, ih]; omega

theorem holds_of_owns {w : World} {base e : Nat} {v : Value} {l : List Tk} (h : w.ownsRow base e 3 v l.length (rowOf l)) :
    ∃ ao cap, v = .slice ao l.length cap ∧ HoldsA w ao l := by
  rcases Nat.eq_zero_or_pos l.length with h0 | h0
  · rcases h.2 with ⟨hv, _⟩ | ⟨g, cap, cur, hv, _⟩
    · exact ⟨none, 0, by rw [hv, h0], fun i hi => by omega⟩
    · exact ⟨_, cap, hv, fun i hi => by omega⟩
  · obtain ⟨g, cap, rfl, hb, hg⟩ := h.form h0
    refine ⟨_, cap, rfl, fun i hi => ⟨g, rfl, hg, ?_⟩⟩
    have := rowOf_at l i hi
    rw [h.cellAt _ (by omega), h.cellAt _ (by omega), h.cellAt _ (by omega)]
    exact this

theorem HoldsA.later {w w' : World} {ao : Option Addr} {l : List Tk} (h : HoldsA w ao l) (hb : Below w.heap.size w w') : HoldsA w' ao l := by
  intro i hi
  obtain ⟨b, h1, h2, h3, h4, h5⟩ := h i hi
  have hz := hb.size
  refine ⟨b, h1, by omega, ?_, ?_, ?_⟩
  · rw [hb.cell (p := ⟨b, i * 3, none⟩) h2]; exact h3
  · rw [hb.cell (p := ⟨b, i * 3 + 1, none⟩) h2]; exact h4
  · rw [hb.cell (p := ⟨b, i * 3 + 2, none⟩) h2]; exact h5

theorem Below.drewN {B : Nat} {a w : World} (h : Below B a w) (n : Nat) : Below B a (w.drewN n) := by
  induction n with
  | zero => exact h
  | succ n ih => exact ih.drew

theorem part_facts (c d T t : Nat) (hc : c ≤ 9) (ht : t ≤ 10000) (hd : d ≤ t) :
    0 ≤ ((t : Int) - d) / T ∧ ((t : Int) - d) / T ≤ 10000 ∧ 0 ≤ (c : Int) * (((t : Int) - d) / T + 1) ∧ (c : Int) * (((t : Int) - d) / T + 1) ≤ 90009 ∧ (c : Int) * (((t : Int) - d) / T + 1) = ((c * ((t - d) / T + 1) : Nat) : Int) := by
  have e1 : ((t : Int) - d) / T = (((t - d) / T : Nat) : Int) := by rw [Int.natCast_ediv, Int.ofNat_sub hd]
  have e2 : (c : Int) * ((((t - d) / T : Nat) : Int) + 1) = ((c * ((t - d) / T + 1) : Nat) : Int) := by simp
  have h1 : (t - d) / T ≤ t - d := Nat.div_le_self _ _
  have h2 : c * ((t - d) / T + 1) ≤ 9 * 10001 := Nat.mul_le_mul hc (by omega)
  rw [e1, e2]
  generalize (t - d) / T = q at *
  refine ⟨by omega, by omega, by omega, by omega, rfl⟩

end Go.Proofs.Ytdhofmnidlhjpab
