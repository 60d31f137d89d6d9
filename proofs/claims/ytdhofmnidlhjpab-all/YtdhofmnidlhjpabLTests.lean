import Derived.Test.YtdhofmnidlhjpabLSpec
namespace Go.Proofs.Ytdhofmnidlhjpab
open Go.RowKit

/-- 'tests' says true of a step of this kind. -/
def TestsT (kd : Int) : Prop :=
  ∀ (N M : Int) (S E : ByteArray) (w : World), i64ok N → i64ok M → S.size ≤ maxLen → E.size ≤ maxLen →
    Calls Try.prog 47 #[.agg #[.int .i64 kd, .int .i64 N, .int .i64 M, .string S, .string E]] w fun e w' => e = .returned (.bool true) ∧ Below w.heap.size w w'

set_option maxRecDepth 100000 in
set_option maxHeartbeats 1600000 in
theorem tests_busy (hcode : CodeBusy) : TestsT 3 := by
  intro N M S E w hN hM hS hE
  have hk := busyAns_ok S.data.toList
  have HA := fun w => hcode S w hS
  have HB := fun w => ref_Busy S w hS
  have HN : Hid (∀ w, Calls Try.prog 8 #[.int .i64 (busyAns S.data.toList).2] w fun e w' => e = .returned (.int .i64 (busyAns S.data.toList).2) ∧ w' = w) := fun w => num_ok _ w hk.2
  generalize (busyAns S.data.toList).1 = c1 at *
  generalize (busyAns S.data.toList).2 = c2 at *
  go_enter Try.func47, Try.ntmps47
  go_wp2_with fail
  refine (HA _).mono ?_
  rintro e w1 ⟨rfl, hb1⟩
  obtain ⟨hc1, hf1⟩ := bcellL hb1
  have hz1 := hb1.size
  simp only [World.size_alloc] at hz1
  go_wp2_with fail
  refine (HB _).mono ?_
  rintro e w2 ⟨rfl, hb2⟩
  go_wp2_with (go_at_call 8; refine (HN.out _).mono ?_; rintro e w3 ⟨rfl, rfl⟩)
  go_ret
  exact ⟨rfl, ((Below.refl _ _).alloc (Nat.le_refl _) _).trans ((hb1.trans (hb2.mono hb1.size)).mono (by simp))⟩

set_option maxRecDepth 100000 in
set_option maxHeartbeats 1600000 in
theorem tests_test (hcode : CodeTest) : TestsT 4 := by
  intro N M S E w hN hM hS hE
  have hk := testAns_ok S.data.toList N
  have HA := fun w => hcode S N w hS hN
  have HB := fun w => ref_Test S N w hS hN.2
  have HN : Hid (∀ w, Calls Try.prog 8 #[.int .i64 (testAns S.data.toList N).2] w fun e w' => e = .returned (.int .i64 (testAns S.data.toList N).2) ∧ w' = w) := fun w => num_ok _ w hk.2.2
  generalize (testAns S.data.toList N).1.1 = c1 at *
  generalize (testAns S.data.toList N).1.2 = c2 at *
  generalize (testAns S.data.toList N).2 = c3 at *
  go_enter Try.func47, Try.ntmps47
  go_wp2_with fail
  refine (HA _).mono ?_
  rintro e w1 ⟨rfl, hb1⟩
  obtain ⟨hc1, hf1⟩ := bcellL hb1
  have hz1 := hb1.size
  simp only [World.size_alloc] at hz1
  go_wp2_with fail
  refine (HB _).mono ?_
  rintro e w2 ⟨rfl, hb2⟩
  go_wp2_with (go_at_call 8; refine (HN.out _).mono ?_; rintro e w3 ⟨rfl, rfl⟩)
  go_ret
  exact ⟨rfl, ((Below.refl _ _).alloc (Nat.le_refl _) _).trans ((hb1.trans (hb2.mono hb1.size)).mono (by simp))⟩

set_option maxRecDepth 100000 in
set_option maxHeartbeats 1600000 in
theorem tests_level (hcode : CodeLevel) : TestsT 5 := by
  intro N M S E w hN hM hS hE
  have hk := levelAns_ok S.data.toList N
  have HA := fun w => hcode S N w hS hN
  have HB := fun w => ref_Level S N w hS hN.1 hN.2
  have HN : Hid (∀ w, Calls Try.prog 8 #[.int .i64 (levelAns S.data.toList N).2] w fun e w' => e = .returned (.int .i64 (levelAns S.data.toList N).2) ∧ w' = w) := fun w => num_ok _ w hk
  generalize (levelAns S.data.toList N).1 = c1 at *
  generalize (levelAns S.data.toList N).2 = c2 at *
  go_enter Try.func47, Try.ntmps47
  go_wp2_with fail
  refine (HA _).mono ?_
  rintro e w1 ⟨rfl, hb1⟩
  obtain ⟨hc1, hf1⟩ := bcellL hb1
  have hz1 := hb1.size
  simp only [World.size_alloc] at hz1
  go_wp2_with fail
  refine (HB _).mono ?_
  rintro e w2 ⟨rfl, hb2⟩
  go_wp2_with (go_at_call 8; refine (HN.out _).mono ?_; rintro e w3 ⟨rfl, rfl⟩)
  go_ret
  exact ⟨rfl, ((Below.refl _ _).alloc (Nat.le_refl _) _).trans ((hb1.trans (hb2.mono hb1.size)).mono (by simp))⟩
end Go.Proofs.Ytdhofmnidlhjpab
