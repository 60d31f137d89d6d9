import Derived.Test.YtdhofmnidlhjpabLSpecT
namespace Go.Proofs.Ytdhofmnidlhjpab
open Go.RowKit

/-- 'traces' says true of a step of this kind. -/
def TracesT (kd : Int) : Prop :=
  ∀ (N M : Int) (S E : ByteArray) (w : World), i64ok N → i64ok M → S.size ≤ maxLen → E.size ≤ maxLen →
    Calls Try.prog 49 #[.agg #[.int .i64 kd, .int .i64 N, .int .i64 M, .string S, .string E]] w fun e w' => e = .returned (.bool true) ∧ Below w.heap.size w w'

set_option maxRecDepth 100000 in
set_option maxHeartbeats 1600000 in
theorem traces_run (hcode : CodeRun) : TracesT 8 := by
  intro N M S E w hN hM hS hE
  have hk := runAns_ok S.data.toList E.data.toList
  have HA := fun w => hcode S E w hS hE
  have HB := fun w => ref_Run S E w hS hE
  have HN : Hid (∀ w, Calls Try.prog 8 #[.int .i64 (runAns S.data.toList E.data.toList).2] w fun e w' => e = .returned (.int .i64 (runAns S.data.toList E.data.toList).2) ∧ w' = w) := fun w => num_ok _ w hk.1
  generalize (runAns S.data.toList E.data.toList).2 = c2 at *
  generalize (runAns S.data.toList E.data.toList).1 = c1 at *
  generalize (⟨c1.toArray⟩ : ByteArray) = B1 at *
  go_enter Try.func49, Try.ntmps49
  go_wp2_with fail
  refine (HA _).mono ?_
  rintro e w1 ⟨rfl, hb1⟩
  obtain ⟨hc1, hf1⟩ := bcellL hb1
  have hz1 := hb1.size
  simp only [World.size_alloc] at hz1
  go_wp2_with fail
  refine (HB _).mono ?_
  rintro e w2 ⟨rfl, hb2⟩
  go_wp2_with (go_at_call 8; refine (HN.out _).mono ?_; rintro e w3 ⟨rfl, rfl⟩)
  go_ret
  exact ⟨rfl, ((Below.refl _ _).alloc (Nat.le_refl _) _).trans ((hb1.trans (hb2.mono hb1.size)).mono (by simp))⟩

set_option maxRecDepth 100000 in
set_option maxHeartbeats 1600000 in
theorem traces_free (hcode : CodeFree) : TracesT 9 := by
  intro N M S E w hN hM hS hE
  have hk := freeAns_i64 S.data.toList E.data.toList
  have HA := fun w => hcode S E w hS hE
  have HB := fun w => ref_Free S E w hS hE
  have HN : Hid (∀ w, Calls Try.prog 8 #[.int .i64 (freeAns S.data.toList E.data.toList).2] w fun e w' => e = .returned (.int .i64 (freeAns S.data.toList E.data.toList).2) ∧ w' = w) := fun w => num_ok _ w hk
  generalize (freeAns S.data.toList E.data.toList).2 = c2 at *
  generalize (freeAns S.data.toList E.data.toList).1 = c1 at *
  generalize (⟨c1.toArray⟩ : ByteArray) = B1 at *
  go_enter Try.func49, Try.ntmps49
  go_wp2_with fail
  refine (HA _).mono ?_
  rintro e w1 ⟨rfl, hb1⟩
  obtain ⟨hc1, hf1⟩ := bcellL hb1
  have hz1 := hb1.size
  simp only [World.size_alloc] at hz1
  go_wp2_with fail
  refine (HB _).mono ?_
  rintro e w2 ⟨rfl, hb2⟩
  go_wp2_with (go_at_call 8; refine (HN.out _).mono ?_; rintro e w3 ⟨rfl, rfl⟩)
  go_ret
  exact ⟨rfl, ((Below.refl _ _).alloc (Nat.le_refl _) _).trans ((hb1.trans (hb2.mono hb1.size)).mono (by simp))⟩
end Go.Proofs.Ytdhofmnidlhjpab
