import Derived.Test.YtdhofmnidlhjpabRows
import Derived.Test.YtdhofmnidlhjpabLUpTo
import Derived.ProofKit
import Derived.SizedLaws
import Derived.ChangeSlices
import Derived.Deep.Slices
namespace Go.Proofs.Ytdhofmnidlhjpab
open Go.ChangeShapes Go.WideShapes Go.ChangeAt Go.RowKit Go.Deep

theorem Try.own : ownKnob Try.prog.godebug = none := by kernel_rfl
theorem Try.laidOut : laidOutB Try.prog = true := by kernel_rfl
theorem Try.cellsOp : Try.prog.cellsOf 24 = 5 := by kernel_rfl
theorem Try.cellsInt : Try.prog.cellsOf 3 = 1 := by kernel_rfl
theorem Try.cellsStr : Try.prog.cellsOf 9 = 1 := by kernel_rfl
theorem Try.bytesOp : Try.prog.bytesOf 24 = 56 := by kernel_rfl

theorem i64ok_of_wf {n : Int} (h : (Lit.int .i64 n).wf = true) : i64ok n := by
  have h1 : IntKind.i64.min = -9223372036854775808 := rfl
  have h2 : IntKind.i64.max = 9223372036854775807 := rfl
  simp only [Lit.wf, Bool.and_eq_true, decide_eq_true_eq] at h
  unfold i64ok
  omega

set_option maxRecDepth 100000 in
/-- The steps of a script, as its reading gives them. -/
theorem holdsO_of {H : Type} {enc : TypeId × Value → H} {W : World} {a : Addr} {len m n : Nat} {D : Nat → DataW H} {Pl : Nat → List MemPlace} (hlm : len ≤ m)
    (hel : ∀ i, i < m → ∃ cs', W.cells? 0 (a.add (i * Try.prog.cellsOf 24)) (Try.prog.cellsOf 24) = some cs' ∧ DataW.trod enc Try.prog W 0 (fun _ => true) true n 24 cs' = some (D i, Pl i)) :
    HoldsO W (some a) len := by
  intro i hi
  have hsp : a.spot = none := by
    obtain ⟨cs0, hc0, _⟩ := hel 0 (by omega)
    rw [Try.cellsOp] at hc0
    obtain ⟨_, hl0, hcell0⟩ := World.cells?_some hc0
    have h00 := hcell0 0 (by omega)
    rw [List.getElem?_eq_getElem (by omega)] at h00
    simpa [Addr.add] using World.cell?_spot h00
  obtain ⟨cs', hc, ht⟩ := hel i (by omega)
  rw [Try.cellsOp] at hc
  obtain ⟨_, hl5, hcell⟩ := World.cells?_some hc
  obtain ⟨xs, n', _, _, _, hxl, hf⟩ := DataW.trod_struct Try.underlying24 ht
  match cs', hl5, xs, hxl with
  | [v0, v1, v2, v3, v4], _, [y0, y1, y2, y3, y4], _ =>
    have f0 : DataW.trod enc Try.prog W 0 (fun _ => true) true n' 3 (([v0, v1, v2, v3, v4].drop 0).take (Try.prog.cellsOf 3)) = some y0 := hf 0 _ rfl
    have f1 : DataW.trod enc Try.prog W 0 (fun _ => true) true n' 3 (([v0, v1, v2, v3, v4].drop 1).take (Try.prog.cellsOf 3)) = some y1 := hf 1 _ rfl
    have f2 : DataW.trod enc Try.prog W 0 (fun _ => true) true n' 3 (([v0, v1, v2, v3, v4].drop 2).take (Try.prog.cellsOf 3)) = some y2 := hf 2 _ rfl
    have f3 : DataW.trod enc Try.prog W 0 (fun _ => true) true n' 9 (([v0, v1, v2, v3, v4].drop 3).take (Try.prog.cellsOf 9)) = some y3 := hf 3 _ rfl
    have f4 : DataW.trod enc Try.prog W 0 (fun _ => true) true n' 9 (([v0, v1, v2, v3, v4].drop 4).take (Try.prog.cellsOf 9)) = some y4 := hf 4 _ rfl
    simp only [Try.cellsInt, Try.cellsStr, List.drop_zero, List.drop_succ_cons, List.take_succ_cons, List.take_zero] at f0 f1 f2 f3 f4
    obtain ⟨k0, e0, _, w0⟩ := DataW.trod_int Try.underlying3 f0
    obtain ⟨k1, e1, _, w1⟩ := DataW.trod_int Try.underlying3 f1
    obtain ⟨k2, e2, _, w2⟩ := DataW.trod_int Try.underlying3 f2
    obtain ⟨s3, e3, _, w3⟩ := DataW.trod_string Try.underlying9 f3
    obtain ⟨s4, e4, _, w4⟩ := DataW.trod_string Try.underlying9 f4
    simp only [List.cons.injEq, and_true] at e0 e1 e2 e3 e4
    subst e0 e1 e2 e3 e4
    obtain ⟨b, off, spot⟩ := a
    have c0 := hcell 0 (by omega)
    have c1 := hcell 1 (by omega)
    have c2 := hcell 2 (by omega)
    have c3 := hcell 3 (by omega)
    have c4 := hcell 4 (by omega)
    have hspot : spot = none := hsp
    subst hspot
    have hadd : ∀ j, ((⟨b, off, none⟩ : Addr).add (i * 5)).add j = ⟨b, off + i * 5 + j, none⟩ := by
      intro j
      rw [add_add]
      unfold Addr.add
      by_cases h0 : i * 5 + j = 0
      · rw [if_pos h0]; simp only [Addr.mk.injEq, and_true, true_and]; omega
      · rw [if_neg h0]; simp only [Addr.mk.injEq, and_true, true_and]; omega
    rw [hadd] at c0 c1 c2 c3 c4
    refine ⟨b, off, k0, k1, k2, s3, s4, rfl, ?_, c0, c1, c2, c3, c4, i64ok_of_wf w0, i64ok_of_wf w1, i64ok_of_wf w2, w3, w4⟩
    exact block_lt_of_cell c0
end Go.Proofs.Ytdhofmnidlhjpab
