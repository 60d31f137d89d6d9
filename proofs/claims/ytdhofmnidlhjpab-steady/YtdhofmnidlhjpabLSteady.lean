import Derived.Test.YtdhofmnidlhjpabLSteadyW
import Derived.Test.YtdhofmnidlhjpabLSpecT
namespace Go.Proofs.Ytdhofmnidlhjpab
open Go.RowKit

def OthersT : Prop :=
  ∀ (kd N M : Int) (S E : ByteArray) (w : World), i64ok kd → i64ok N → i64ok M → S.size ≤ maxLen → E.size ≤ maxLen →
    Calls Try.prog 10 #[opV kd N M S E] w fun e w' => e = .returned (.tuple #[]) ∧ Below w.heap.size w w'

theorem others_all (f : List UInt8 → Int × Int) (g : List UInt8 → List UInt8 × Int) (h1 : CodeCheck) (h2 : CodeDemand) (h3 : CodeBusy) (h4 : CodeTest) (h5 : CodeLevel) (h6 : CodeRefute f) (h7 : CodeRoom) (h8 : CodeRun) (h9 : CodeFree) (h10 : CodeBreak g) : OthersT := by
  intro kd N M S E w _ hN _ hS hE
  unfold opV
  exact others_ok N M kd S E w (ends_of fun w => h1 S w hS) (ends_of fun w => h2 S N w hS hN) (ends_of fun w => h3 S w hS) (ends_of fun w => h4 S N w hS hN) (ends_of fun w => h5 S N w hS hN) (ends_of fun w => h6.calls S w hS) (ends_of fun w => h7 S N w hS hN) (ends_of fun w => h8 S E w hS hE) (ends_of fun w => h9 S E w hS hE) (ends_of fun w => h10.calls S w hS)

theorem law_steady_of (f : List UInt8 → Int × Int) (g : List UInt8 → List UInt8 × Int) (h6 : CodeRefute f) (h10 : CodeBreak g) (ot : OthersT) (ao : Option Addr) (n cap : Nat) (w : World) (hn : n ≤ 1000000000000000) (hH : HoldsO w ao n) :
    Calls Try.prog 3 #[.slice ao n cap] w fun e w' => e = .returned (.bool true) ∧ Below w.heap.size w w' := by
  rcases Nat.eq_zero_or_pos n with e | h0
  · subst e; exact steady_none ao cap w
  · refine steady_some ao n cap w hn h0 hH ot (fun S hS => ?_)
    have m1 := h6.may S.data.toList
    have m2 := h10.may S.data.toList
    have hbl := (broken_ok _ _ _ m2).2
    refine ⟨(f S.data.toList).1, (f S.data.toList).2, (g S.data.toList).2, ⟨(g S.data.toList).1.toArray⟩, fun w => num_ok _ w (refuted_ok _ _ _ m1).2, fun w => num_ok _ w (broken_ok _ _ _ m2).1, fun w => h6.calls S w hS, fun w => h10.calls S w hS, fun w => ref_Refuted S _ _ w hS m1, fun w => ?_⟩
    exact ref_Broken S ⟨(g S.data.toList).1.toArray⟩ (g S.data.toList).2 w hS (by show (g S.data.toList).1.toArray.size ≤ _; unfold maxLen; simp; omega) (by simpa using m2)
end Go.Proofs.Ytdhofmnidlhjpab
