import Derived.Test.YtdhofmnidlhjpabLPlays2
import Derived.Test.YtdhofmnidlhjpabLTraces
namespace Go.Proofs.Ytdhofmnidlhjpab
open Go.RowKit

set_option maxRecDepth 100000 in
set_option maxHeartbeats 1600000 in
theorem plays_run (hcode : CodeRun) : Plays 8 8 := by
  intro kd N M S E w hlo hhi hN hM hS hE
  obtain rfl : kd = 8 := by omega
  unfold opV
  have HT := fun w => traces_run hcode N M S E w hN hM hS hE
  go_enter Try.func28, Try.ntmps28
  go_wp2_with fail
  refine (HT _).mono ?_
  rintro e w1 ⟨rfl, hb1⟩
  go_wp2
  go_ret
  exact ⟨rfl, ((Below.refl _ _).alloc (Nat.le_refl _) _).trans (hb1.mono (by simp))⟩

set_option maxRecDepth 100000 in
set_option maxHeartbeats 1600000 in
theorem plays_free (hcode : CodeFree) : Plays 9 9 := by
  intro kd N M S E w hlo hhi hN hM hS hE
  obtain rfl : kd = 9 := by omega
  unfold opV
  have HT := fun w => traces_free hcode N M S E w hN hM hS hE
  go_enter Try.func28, Try.ntmps28
  go_wp2_with fail
  refine (HT _).mono ?_
  rintro e w1 ⟨rfl, hb1⟩
  go_wp2
  go_ret
  exact ⟨rfl, ((Below.refl _ _).alloc (Nat.le_refl _) _).trans (hb1.mono (by simp))⟩

set_option maxRecDepth 100000 in
set_option maxHeartbeats 1600000 in
theorem plays_break (g : List UInt8 → List UInt8 × Int) (hcode : CodeBreak g) : Plays 10 10 := by
  intro kd N M S E w hlo hhi hN hM hS hE
  obtain rfl : kd = 10 := by omega
  unfold opV
  have HA := fun w => hcode.calls S w hS
  have hbl := (broken_ok _ _ _ (hcode.may S.data.toList)).2
  have hmay := hcode.may S.data.toList
  have HB := fun w => ref_Broken S ⟨(g S.data.toList).1.toArray⟩ (g S.data.toList).2 w hS (by show (g S.data.toList).1.toArray.size ≤ _; unfold maxLen; simp; omega) (by simpa using hmay)
  have HN : Hid (∀ w, Calls Try.prog 8 #[.int .i64 (g S.data.toList).2] w fun e w' => e = .returned (.int .i64 (g S.data.toList).2) ∧ w' = w) := fun w => num_ok _ w (broken_ok _ _ _ (hcode.may S.data.toList)).1
  clear hbl hmay
  generalize (g S.data.toList).2 = c2 at *
  generalize (g S.data.toList).1 = c1 at *
  generalize (⟨c1.toArray⟩ : ByteArray) = B1 at *
  go_enter Try.func28, Try.ntmps28
  go_wp2_with fail
  refine (HA _).mono ?_
  rintro e w1 ⟨rfl, hb1⟩
  obtain ⟨hc1, hf1⟩ := bcellL hb1
  have hz1 := hb1.size
  simp only [World.size_alloc] at hz1
  have hcS : w1.cell? ⟨w.heap.size, 3, none⟩ = some (.string S) := by rw [hc1 _ _ (by simp)]; simp
  have hzs : w.heap.size < w1.heap.size := by omega
  clear hc1 hf1
  go_wp2_with fail
  go_region_held3 (fun w' => w'.cell? ⟨w.heap.size, 3, none⟩ = some (.string S)) (first | go_keep | (rw [hb2.cell (by simpa using hzs)]; simpa using ‹_›))
    (first | (go_at_call 8; refine (HN.out _).mono ?_; rintro e w3 ⟨rfl, rfl⟩) | (go_at_call 9; refine (HB _).mono ?_; rintro e w2 ⟨rfl, hb2⟩))
  all_goals
    go_wp2
    go_ret
    exact ⟨rfl, ((Below.refl _ _).alloc (Nat.le_refl _) _).trans ((hb1.drew.trans (hb2.mono hb1.size)).mono (by simp))⟩

/-- Of every kind. -/
theorem plays_all (f : List UInt8 → Int × Int) (g : List UInt8 → List UInt8 × Int) (h1 : Plays 1 1) (h2 : Plays 2 2) (h3 : CodeBusy) (h4 : CodeTest) (h5 : CodeLevel) (h6 : CodeRefute f) (h7 : CodeRoom) (h8 : CodeRun) (h9 : CodeFree) (h10 : CodeBreak g) : Plays 1 10 := by
  intro kd N M S E w hlo hhi hN hM hS hE
  have : kd = 1 ∨ kd = 2 ∨ kd = 3 ∨ kd = 4 ∨ kd = 5 ∨ kd = 6 ∨ kd = 7 ∨ kd = 8 ∨ kd = 9 ∨ kd = 10 := by omega
  rcases this with e | e | e | e | e | e | e | e | e | e <;> subst e
  · exact h1 1 N M S E w (by omega) (by omega) hN hM hS hE
  · exact h2 2 N M S E w (by omega) (by omega) hN hM hS hE
  · exact plays_busy h3 3 N M S E w (by omega) (by omega) hN hM hS hE
  · exact plays_test h4 4 N M S E w (by omega) (by omega) hN hM hS hE
  · exact plays_level h5 5 N M S E w (by omega) (by omega) hN hM hS hE
  · exact plays_refute f h6 6 N M S E w (by omega) (by omega) hN hM hS hE
  · exact plays_room h7 7 N M S E w (by omega) (by omega) hN hM hS hE
  · exact plays_run h8 8 N M S E w (by omega) (by omega) hN hM hS hE
  · exact plays_free h9 9 N M S E w (by omega) (by omega) hN hM hS hE
  · exact plays_break g h10 10 N M S E w (by omega) (by omega) hN hM hS hE

theorem plays_runs (h8 : CodeRun) (h9 : CodeFree) : Plays 8 9 := by
  intro kd N M S E w hlo hhi hN hM hS hE
  have : kd = 8 ∨ kd = 9 := by omega
  rcases this with e | e <;> subst e
  · exact plays_run h8 8 N M S E w (by omega) (by omega) hN hM hS hE
  · exact plays_free h9 9 N M S E w (by omega) (by omega) hN hM hS hE
end Go.Proofs.Ytdhofmnidlhjpab
