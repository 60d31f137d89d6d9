import Derived.Test.YtdhofmnidlhjpabLSpec
import Derived.Test.YtdhofmnidlhjpabTBroken
namespace Go.Proofs.Ytdhofmnidlhjpab
open Go.RowKit

def CodeRun : Prop := ∀ (s ev : ByteArray) (w : World), s.size ≤ maxLen → ev.size ≤ maxLen → Calls Try.prog 26 #[.string s, .string ev] w fun e w' => e = .returned (.tuple #[.string ⟨(runAns s.data.toList ev.data.toList).1.toArray⟩, .int .i64 (runAns s.data.toList ev.data.toList).2]) ∧ Below w.heap.size w w'

def CodeFree : Prop := ∀ (s ev : ByteArray) (w : World), s.size ≤ maxLen → ev.size ≤ maxLen → Calls Try.prog 27 #[.string s, .string ev] w fun e w' => e = .returned (.tuple #[.string ⟨(freeAns s.data.toList ev.data.toList).1.toArray⟩, .int .i64 (freeAns s.data.toList ev.data.toList).2]) ∧ Below w.heap.size w w'

/-- Break answers by a function of the set, within what is free. -/
structure CodeBreak (g : List UInt8 → List UInt8 × Int) : Prop where
  may : ∀ l, brokenB l (g l).1 (g l).2 = true
  calls : ∀ (s : ByteArray) (w : World), s.size ≤ maxLen → Calls Try.prog 6 #[.string s] w fun e w' => e = .returned (.tuple #[.string ⟨(g s.data.toList).1.toArray⟩, .int .i64 (g s.data.toList).2]) ∧ Below w.heap.size w w'

theorem runAns_ok (l ev : List UInt8) : i64ok (runAns l ev).2 ∧ (runAns l ev).1.length ≤ 18000 := by
  have hk := freeAns_err l ev
  have hf := free_len l ev
  unfold runAns i64ok
  split
  · simp only [List.length_nil]; omega
  · split
    · simp
    · omega

theorem freeAns_i64 (l ev : List UInt8) : i64ok (freeAns l ev).2 := by
  have hk := freeAns_err l ev
  unfold i64ok; omega

theorem broken_ok (l s : List UInt8) (e : Int) (h : brokenB l s e = true) : i64ok e ∧ s.length ≤ 9000 := by
  have hk := checkOf_bound l
  unfold brokenB at h
  unfold i64ok
  split at h
  · simp only [Bool.and_eq_true, beq_iff_eq, List.isEmpty_iff] at h; rw [h.2]; simp only [List.length_nil]; omega
  · split at h
    · simp only [Bool.and_eq_true, beq_iff_eq, List.isEmpty_iff] at h; rw [h.2]; simp only [List.length_nil]; omega
    · simp only [Bool.and_eq_true, beq_iff_eq, decide_eq_true_eq] at h
      have := (freeAns_ok l s h.1.1.2).2.1
      omega
end Go.Proofs.Ytdhofmnidlhjpab
