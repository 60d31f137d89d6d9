import Derived.Test.YtdhofmnidlhjpabLTests
namespace Go.Proofs.Ytdhofmnidlhjpab
open Go.RowKit

theorem demandOf_okL (l : List UInt8) (t : Int) : i64ok (demandOf l t).1 ∧ i64ok (demandOf l t).2 := by
  have hk := checkOf_bound l
  unfold demandOf i64ok
  by_cases h1 : (checkOf l).1 = 0
  · rw [if_neg (by simp [h1])]
    by_cases h2 : t < 0 ∨ 10000 < t
    · rw [if_pos h2]; simp
    · rw [if_neg h2]
      obtain ⟨hf, hn8, hn1, hl, hfi⟩ := set_facts _ h1
      have hw := wanted_le (tasksOf l) t.toNat (fun x hx => by have := hfi x hx; simp only [fine] at this; omega)
      have hb3 : (tasksOf l).length * (9 * (t.toNat + 1)) ≤ 8 * (9 * 10001) := Nat.mul_le_mul hn8 (by omega)
      simp only
      omega
  · rw [if_pos h1]; simp only; omega

set_option maxRecDepth 100000 in
set_option maxHeartbeats 1600000 in
theorem plays_busy (hcode : CodeBusy) : Plays 3 3 := by
  intro kd N M S E w hlo hhi hN hM hS hE
  obtain rfl : kd = 3 := by omega
  unfold opV
  have HT := fun w => tests_busy hcode N M S E w hN hM hS hE
  go_enter Try.func28, Try.ntmps28
  go_wp2_with fail
  refine (HT _).mono ?_
  rintro e w1 ⟨rfl, hb1⟩
  go_wp2
  go_ret
  exact ⟨rfl, ((Below.refl _ _).alloc (Nat.le_refl _) _).trans (hb1.mono (by simp))⟩

set_option maxRecDepth 100000 in
set_option maxHeartbeats 1600000 in
theorem plays_test (hcode : CodeTest) : Plays 4 4 := by
  intro kd N M S E w hlo hhi hN hM hS hE
  obtain rfl : kd = 4 := by omega
  unfold opV
  have HT := fun w => tests_test hcode N M S E w hN hM hS hE
  go_enter Try.func28, Try.ntmps28
  go_wp2_with fail
  refine (HT _).mono ?_
  rintro e w1 ⟨rfl, hb1⟩
  go_wp2
  go_ret
  exact ⟨rfl, ((Below.refl _ _).alloc (Nat.le_refl _) _).trans (hb1.mono (by simp))⟩

set_option maxRecDepth 100000 in
set_option maxHeartbeats 1600000 in
theorem plays_level (hcode : CodeLevel) : Plays 5 5 := by
  intro kd N M S E w hlo hhi hN hM hS hE
  obtain rfl : kd = 5 := by omega
  unfold opV
  have HT := fun w => tests_level hcode N M S E w hN hM hS hE
  go_enter Try.func28, Try.ntmps28
  go_wp2_with fail
  refine (HT _).mono ?_
  rintro e w1 ⟨rfl, hb1⟩
  go_wp2
  go_ret
  exact ⟨rfl, ((Below.refl _ _).alloc (Nat.le_refl _) _).trans (hb1.mono (by simp))⟩

set_option maxRecDepth 100000 in
set_option maxHeartbeats 1600000 in
theorem plays_checkL (hcode : CodeCheck) : Plays 1 1 := by
  intro kd N M S E w hlo hhi hN hM hS hE
  obtain rfl : kd = 1 := by omega
  unfold opV
  have HA := fun w => hcode S w hS
  have HB := fun w => ref_check S w hS
  have HN : Hid (∀ w, Calls Try.prog 8 #[.int .i64 (checkOf S.data.toList).1] w fun e w' => e = .returned (.int .i64 (checkOf S.data.toList).1) ∧ w' = w) := fun w => num_ok _ w (by have := checkOf_bound S.data.toList; unfold i64ok; omega)
  generalize (checkOf S.data.toList).1 = c1 at *
  generalize (checkOf S.data.toList).2 = c2 at *
  go_enter Try.func28, Try.ntmps28
  go_wp2_with fail
  refine (HA _).mono ?_
  rintro e w1 ⟨rfl, hb1⟩
  obtain ⟨hc1, hf1⟩ := bcellL hb1
  have hz1 := hb1.size
  simp only [World.size_alloc] at hz1
  go_wp2_with fail
  refine (HB _).mono ?_
  rintro e w2 ⟨rfl, hb2⟩
  go_wp2_with (go_at_call 8; refine (HN.out _).mono ?_; rintro e w3 ⟨rfl, rfl⟩)
  go_ret
  exact ⟨rfl, ((Below.refl _ _).alloc (Nat.le_refl _) _).trans ((hb1.trans (hb2.mono hb1.size)).mono (by simp))⟩

set_option maxRecDepth 100000 in
set_option maxHeartbeats 1600000 in
theorem plays_demandL (hcode : CodeDemand) : Plays 2 2 := by
  intro kd N M S E w hlo hhi hN hM hS hE
  obtain rfl : kd = 2 := by omega
  unfold opV
  have HA := fun w => hcode S N w hS hN
  have HB := fun w => ref_demand S N w hS hN.1 hN.2
  have HN : Hid (∀ w, Calls Try.prog 8 #[.int .i64 (demandOf S.data.toList N).2] w fun e w' => e = .returned (.int .i64 (demandOf S.data.toList N).2) ∧ w' = w) := fun w => num_ok _ w (demandOf_okL S.data.toList N).2
  generalize (demandOf S.data.toList N).1 = c1 at *
  generalize (demandOf S.data.toList N).2 = c2 at *
  go_enter Try.func28, Try.ntmps28
  go_wp2_with fail
  refine (HA _).mono ?_
  rintro e w1 ⟨rfl, hb1⟩
  obtain ⟨hc1, hf1⟩ := bcellL hb1
  have hz1 := hb1.size
  simp only [World.size_alloc] at hz1
  go_wp2_with fail
  refine (HB _).mono ?_
  rintro e w2 ⟨rfl, hb2⟩
  go_wp2_with (go_at_call 8; refine (HN.out _).mono ?_; rintro e w3 ⟨rfl, rfl⟩)
  go_ret
  exact ⟨rfl, ((Below.refl _ _).alloc (Nat.le_refl _) _).trans ((hb1.trans (hb2.mono hb1.size)).mono (by simp))⟩

set_option maxRecDepth 100000 in
set_option maxHeartbeats 1600000 in
theorem plays_room (hcode : CodeRoom) : Plays 7 7 := by
  intro kd N M S E w hlo hhi hN hM hS hE
  obtain rfl : kd = 7 := by omega
  unfold opV
  have HA := fun w => hcode S N w hS hN
  have HB := fun w => ref_Room S N w hS hN.1 hN.2
  have HN : Hid (∀ w, Calls Try.prog 8 #[.int .i64 (roomAns S.data.toList N).2] w fun e w' => e = .returned (.int .i64 (roomAns S.data.toList N).2) ∧ w' = w) := fun w => num_ok _ w (roomAns_ok S.data.toList N).2
  generalize (roomAns S.data.toList N).1 = c1 at *
  generalize (roomAns S.data.toList N).2 = c2 at *
  go_enter Try.func28, Try.ntmps28
  go_wp2_with fail
  refine (HA _).mono ?_
  rintro e w1 ⟨rfl, hb1⟩
  obtain ⟨hc1, hf1⟩ := bcellL hb1
  have hz1 := hb1.size
  simp only [World.size_alloc] at hz1
  go_wp2_with fail
  refine (HB _).mono ?_
  rintro e w2 ⟨rfl, hb2⟩
  go_wp2_with (go_at_call 8; refine (HN.out _).mono ?_; rintro e w3 ⟨rfl, rfl⟩)
  go_ret
  exact ⟨rfl, ((Below.refl _ _).alloc (Nat.le_refl _) _).trans ((hb1.trans (hb2.mono hb1.size)).mono (by simp))⟩

set_option maxRecDepth 100000 in
set_option maxHeartbeats 1600000 in
theorem plays_refute (f : List UInt8 → Int × Int) (hcode : CodeRefute f) : Plays 6 6 := by
  intro kd N M S E w hlo hhi hN hM hS hE
  obtain rfl : kd = 6 := by omega
  unfold opV
  have HA := fun w => hcode.calls S w hS
  have HB := fun w => ref_Refuted S _ _ w hS (hcode.may S.data.toList)
  have HN : Hid (∀ w, Calls Try.prog 8 #[.int .i64 (f S.data.toList).2] w fun e w' => e = .returned (.int .i64 (f S.data.toList).2) ∧ w' = w) := fun w => num_ok _ w (refuted_ok _ _ _ (hcode.may S.data.toList)).2
  generalize (f S.data.toList).1 = c1 at *
  generalize (f S.data.toList).2 = c2 at *
  go_enter Try.func28, Try.ntmps28
  go_wp2_with fail
  refine (HA _).mono ?_
  rintro e w1 ⟨rfl, hb1⟩
  obtain ⟨hc1, hf1⟩ := bcellL hb1
  have hz1 := hb1.size
  simp only [World.size_alloc] at hz1
  have hcS : w1.cell? ⟨w.heap.size, 3, none⟩ = some (.string S) := by rw [hc1 _ _ (by simp)]; simp
  have hzs : w.heap.size < w1.heap.size := by omega
  clear hc1 hf1
  go_wp2_with fail
  go_region_held3 (fun w' => w'.cell? ⟨w.heap.size, 3, none⟩ = some (.string S)) (first | go_keep | (rw [hb2.cell (by simpa using hzs)]; simpa using ‹_›))
    (first | (go_at_call 8; refine (HN.out _).mono ?_; rintro e w3 ⟨rfl, rfl⟩) | (go_at_call 7; refine (HB _).mono ?_; rintro e w2 ⟨rfl, hb2⟩))
  all_goals
    go_wp2
    go_ret
    exact ⟨rfl, ((Below.refl _ _).alloc (Nat.le_refl _) _).trans ((hb1.drew.trans (hb2.mono hb1.size)).mono (by simp))⟩
end Go.Proofs.Ytdhofmnidlhjpab
